/- Walks: Lex of package lexer, with the capacity of the row that it hands back (written by gen/mkw7c.py). -/
import Derived.Test.YtcckocaaoklibaaDoorW7
import Derived.Test.YtcckocaaoklibaaDoorLex3
namespace Go.Proofs.YtcckocaaoklibaaDoor
open Go.RowKit
set_option linter.unusedVariables false

theorem own_slice3c {w : World} {base e n : Nat} {v : Value} {xs : List Value} (h : w.ownsRow base e 3 v n xs) : ∃ A c, v = .slice A n c ∧ n ≤ c := by
  rcases h.2 with ⟨h0, h1⟩ | ⟨g, cap, cur, hv, _, _, hc, _⟩
  · exact ⟨none, 0, by rw [h0, h1], by omega⟩
  · exact ⟨_, _, hv, hc⟩
theorem Toks.pre {w : World} {B : Nat} {A : Option Addr} {ts us : List Kx.Tk} (h : Toks w B A (ts ++ us)) : Toks w B A ts := ⟨⟨fun hn => by
  obtain ⟨b, off, e, hb, hc⟩ := h.row.cells (by rw [flatT_append, List.length_append]; omega)
  refine ⟨b, off, e, hb, fun k u hu => hc k u ?_⟩
  rw [flatT_append, List.getElem?_append_left (List.getElem?_eq_some_iff.1 hu).1]
  exact hu⟩⟩
theorem Toks.at_sh {w : World} {B : Nat} {A : Option Addr} {ts us : List Kx.Tk} {d : Nat} (h : Toks w B A (ts ++ us.map (Kx.shT d))) {k : Nat} (hk : k < us.length) :
    ∃ b off, A = some ⟨b, off, none⟩ ∧ b < B ∧ w.cell? ⟨b, off + (ts.length + k) * 3, none⟩ = some (.int .i64 us[k].kind) ∧ w.cell? ⟨b, off + (ts.length + k) * 3 + 1, none⟩ = some (.string (mkB us[k].text)) ∧ w.cell? ⟨b, off + (ts.length + k) * 3 + 2, none⟩ = some (.int .i64 ((us[k].pos : Int) + ((d : Nat) : Int))) := by
  obtain ⟨b, off, e, hb, h0, h1, h2⟩ := h.at_ (k := ts.length + k) (by rw [List.length_append, List.length_map]; omega)
  have he : (ts ++ us.map (Kx.shT d))[ts.length + k]'(by rw [List.length_append, List.length_map]; omega) = Kx.shT d us[k] := by
    rw [List.getElem_append_right (by omega)]
    simp
  rw [he] at h0 h1 h2
  exact ⟨b, off, e, hb, h0, h1, h2⟩

/-- what Lex hands back -/
def LexCap (l : List UInt8) (w : World) (e : Ending) (w' : World) : Prop :=
  Below w.heap.size w w' ∧ ((8192 < l.length ∧ e = .returned (.tuple #[.slice none 0 0, .int .i64 0, .int .i64 5])) ∨
    (l.length ≤ 8192 ∧ ∃ (p : Nat) (c : Int), (Kx.lexA l).2 = some (p, c) ∧ c ≠ 0 ∧ e = .returned (.tuple #[.slice none 0 0, .int .i64 (p : Int), .int .i64 c])) ∨
    (l.length ≤ 8192 ∧ (Kx.lexA l).2 = none ∧ ∃ A cap, e = .returned (.tuple #[.slice A (Kx.lexA l).1.length cap, .int .i64 0, .int .i64 0]) ∧ Toks w' w'.heap.size A (Kx.lexA l).1 ∧ (Kx.lexA l).1.length ≤ cap))

set_option maxRecDepth 100000 in
set_option maxHeartbeats 8000000 in
theorem lex_cap (s : ByteArray) (hs : s.size ≤ 100000) (w : World) (hT : LexT w) : Calls Tryd.prog 19 #[.string s] w (LexCap (bs s) w) := by
  by_cases hbig : 8192 < s.size
  · have hbI : (8192 : Int) < (s.size : Int) := by omega
    go_enter Tryd.func19, Tryd.ntmps19
    go_wp2_with fail
    go_ret3
    exact ⟨Below.refl _ _, .inl ⟨by rw [bs_length]; exact hbig, rfl⟩⟩
  have hbI : ¬ (8192 : Int) < (s.size : Int) := by omega
  have hsm : s.size ≤ 8192 := by omega
  have HLS := Lib.hid (bs_length s)
  have HSK := Lib.hid (fun (a : Nat) (ha : a ≤ s.size) W => skip_any s a (by omega) ha W)
  obtain ⟨i0, hi, hz0, hz1, hz2⟩ := info_parts infoTok
  have I0 : TkOwn w w (.slice none 0 0) [] := ⟨⟨rfl, .inl ⟨rfl, rfl⟩⟩, Below.refl _ _⟩
  have HA0 : Hid (Kx.lexA (bs s) = Kx.lexR s.size ((bs s).drop (s.size - (Kx.skipL false ((bs s).drop 0)).length))) := Lib.hid (by
    unfold Kx.lexA
    have := Kx.skip_drop false (bs s)
    rw [bs_length] at this
    rw [bs_length, List.drop_zero, ← this])
  have HHD0 : Hid (Kx.hdOk ((bs s).drop (s.size - (Kx.skipL false ((bs s).drop 0)).length))) := Lib.hid (by
    have := Kx.skip_drop false (bs s)
    rw [bs_length] at this
    rw [List.drop_zero, ← this]; exact Kx.skip_hd _ _)
  go_enter Tryd.func19, Tryd.ntmps19
  go_wp2_with fail
  refine (HSK.out 0 (Nat.zero_le _) _).mono ?_
  rintro e w' ⟨rfl, rfl⟩
  go_wp2_with fail
  go_loopw [5, 6] (fun tv av wr => ∃ (a : Nat) (ts : List Kx.Tk), a ≤ s.size ∧ av = .int .i64 (a : Int) ∧ TkOwn w wr tv ts ∧ Hid (ts.length ≤ a ∧ Kx.lexA (bs s) = (ts ++ (Kx.lexR s.size ((bs s).drop a)).1, (Kx.lexR s.size ((bs s).drop a)).2))) (fun _ av _ => s.size - (intOf av).toNat)
  case atStart => exact ⟨s.size - (Kx.skipL false ((bs s).drop 0)).length, [], Nat.sub_le _ _, rfl, I0, Lib.hid ⟨Nat.zero_le _, by rw [HA0.out]; rfl⟩⟩
  case round =>
    clear I0 HA0 HHD0
    obtain ⟨a, ts, ha, rfl, I, hq⟩ := hrel
    by_cases hal : a < s.size
    · have haI : (a : Int) < (s.size : Int) := by omega
      obtain ⟨A', c', rfl⟩ := own_slice3 I.own
      have hlne : (bs s).drop a ≠ [] := by rw [drop_at hal]; simp
      have hnx := next_any s a hs hal wr (hT.below I.bel)
      have hck0 := ck_tk hlne
      have hstep := fun h => Kx.lex_step (L := bs s) (N := s.size) HLS.out hal h
      have hbad := fun h => Kx.lexR_bad (N := s.size) hlne h
      have hpos := fun h => Kx.tk_pos (l := (bs s).drop a) h
      have hll : ((bs s).drop a).length = s.size - a := by rw [List.length_drop, HLS.out]
      revert hnx hck0 hstep hbad hpos
      generalize Kx.tk ((bs s).drop a) = q
      obtain ⟨k, n, c⟩ := q
      dsimp only
      intro hnx hck0 hstep hbad hpos
      have htl : (((bs s).drop a).take n).length ≤ 100000 := by rw [List.length_take]; omega
      have HST := Lib.hid hstep
      have HBD := Lib.hid hbad
      have HPS := Lib.hid hpos
      have HCK0 := Lib.hid hck0
      have HLL := Lib.hid hll
      have HTL : Hid (c = 0 → (mkB (((bs s).drop a).take n)).size = n) := Lib.hid fun h => by
        rw [mk_size, List.length_take]; have := (hpos h).2; omega
      have hck := fun W (hW : LexT W) => check_any k (((bs s).drop a).take n) a htl W hW
      unfold tokV at hnx hck
      have HCK := Lib.hid hck
      clear hstep hbad hpos hck0 hlne hll htl hck
      revert hnx HCK HCK0 HTL HST
      generalize ((bs s).drop a).take n = t
      intro hnx HST HCK0 HTL HCK
      go_wp2_with fail
      refine hnx.mono ?_
      rintro e w1 ⟨rfl, b1⟩
      clear hnx
      go_wp2_with fail
      have T1 := Three.new_ w1 (.int .i64 k) (.string (mkB t)) (.int .i64 (a : Int)) 40
      have b2 := bTrans b1 (al1 w1 (.cells #[.int .i64 k, .string (mkB t), .int .i64 (a : Int)] 40))
      have hb7 : wr.heap.size ≤ w1.heap.size := b1.size
      refine (HCK.out _ (hT.below (I.below b2).bel)).mono ?_
      rintro e w3 ⟨rfl, b3⟩
      have T3 := T1.below b3 T1.lt
      have I3 := I.below (bTrans b2 b3)
      have hblk := I.blk
      clear T1 b1 b2 b3
      rw [HCK0.out]
      by_cases hc0 : c = 0
      · subst hc0
        have hqn := Lib.hid (HST.out rfl)
        have hnp := HPS.out rfl
        rw [HLL.out] at hnp
        have hsz := HTL.out rfl
        have hne7 : some w1.heap.size ≠ (Value.slice A' ts.length c').ownBlock := fun e => by have := hblk _ e.symm; omega
        have HN7 := Lib.hid hne7
        clear hne7 hblk HST HTL HBD HPS HCK0 HCK HLL
        have c0 := T3.c0
        have c1 := T3.c1
        have c2 := T3.c2
        have ho := I3.own
        have hts : Hid (ts.length ≤ 8192) := Lib.hid (by have := hq.out.1; omega)
        go_wp2_with (at_builtin; refine wpList_append_own _ rfl _ _ 33 rfl w.heap.size 40 i0 (.agg #[.int .i64 0, .string ⟨#[]⟩, .int .i64 0]) 3 32 Tryd.underlying33 hi hz0 hz1 hz2 rfl (by decide) _ _ _ rfl (ho.alloc _) ⟨_, 0, none⟩ 1 1 [.int .i64 k, .string (mkB t), .int .i64 (a : Int)] rfl rfl ?c1 ?c2 ?c3 ?c4 ?c5 ?_)
        case c1 =>
          intro j u hu
          have hq := cell_of_row _ w3.heap.size (0 + j) _ _ _ (heap_alloc_new w3 (.cells #[.int .i64 k, .string (mkB t), .int .i64 (a : Int)] 40))
          rw [Go.WideShapes.add_plain]
          refine Eq.trans hq ?_
          rw [Nat.zero_add]
          simpa using hu
        case c2 => intro u hu; simp at hu; rcases hu with rfl | rfl | rfl <;> rfl
        case c3 => have := hts.out; unfold maxLen; omega
        case c4 => have := hts.out; omega
        case c5 => have := I3.bel.size; first | omega | (simp; omega)
        intro v' w4 hown' hgrow _
        have I4 := I3.snoc (t := ⟨k, t, a⟩) hown' hgrow
        have T4 := (T3.below (al1 w3 (.cells #[.int .i64 k, .string (mkB t), .int .i64 (a : Int)] 40)) T3.lt).grown hgrow HN7.out
        clear hown' hgrow ho I3 T3 c0 c1 c2
        have c1 := T4.c1
        have hsum : (a : Int) + (n : Int) = ((a + n : Nat) : Int) := by omega
        have hsk := HSK.out (a + n) (by omega) w4
        rw [← hsum] at hsk
        have HSN := Lib.hid hsk
        clear hsk hsum
        go_wp2_with fail
        refine HSN.out.mono ?_
        rintro e w' ⟨rfl, rfl⟩
        go_wp2_with fail
        go_roundw
        case rel =>
          refine ⟨s.size - (Kx.skipL false ((bs s).drop (a + n))).length, ts ++ [⟨k, t, a⟩], Nat.sub_le _ _, rfl, I4, Lib.hid ⟨?_, ?_⟩⟩
          · have h1 := Kx.skip_len false ((bs s).drop (a + n))
            rw [List.length_drop, HLS.out] at h1
            have h2 := hq.out.1
            rw [List.length_append]
            simp; omega
          · rw [hq.out.2, hqn.out, List.append_assoc]; rfl
        case measure =>
          have h1 := Kx.skip_len false ((bs s).drop (a + n))
          rw [List.length_drop, HLS.out] at h1
          simp [intOf]; omega
      · have hcb : (c != 0) = true := by simpa using hc0
        have HR : Hid ((Kx.lexA (bs s)).2 = some (a, c)) := Lib.hid (by
          rw [hq.out.2, HBD.out hc0, HLL.out]
          show some (s.size - (s.size - a), c) = some (a, c)
          rw [show s.size - (s.size - a) = a by omega])
        have HC0 := Lib.hid hc0
        clear hc0
        go_wp2_with fail
        go_ret3
        exact ⟨I3.bel, .inr (.inl ⟨by rw [HLS.out]; exact hsm, a, c, HR.out, HC0.out, rfl⟩)⟩
    · obtain rfl : a = s.size := by omega
      obtain ⟨A', c', rfl, hcap⟩ := own_slice3c I.own
      have hE : Hid (Kx.lexA (bs s) = (ts, none)) := Lib.hid (by
        have := hq.out.2
        rw [List.drop_of_length_le (by rw [HLS.out]; exact Nat.le_refl _), Kx.lexR_nil] at this
        rw [this]; simp)
      have htk := I.toks
      have hbel := I.bel
      clear hq I
      go_wp2_with fail
      go_ret3
      exact ⟨hbel, .inr (.inr ⟨by rw [HLS.out]; exact hsm, by rw [hE.out], A', c', by rw [hE.out]; rfl, by rw [hE.out]; exact htk, by rw [hE.out]; exact hcap⟩)⟩
end Go.Proofs.YtcckocaaoklibaaDoor
