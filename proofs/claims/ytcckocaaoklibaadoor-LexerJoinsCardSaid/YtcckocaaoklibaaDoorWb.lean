/- Walks: the reference's Lex. -/
import Derived.Test.YtcckocaaoklibaaDoorWa
namespace Go.Proofs.YtcckocaaoklibaaDoor
open Go.RowKit
set_option linter.unusedVariables false

set_option maxRecDepth 100000 in
set_option maxHeartbeats 8000000 in
theorem rlex_any (s : ByteArray) (hs : s.size ≤ 100000) (w : World) (hT : LexT w) : Calls Tryd.prog 20 #[.string s] w (LexRes (bs s) w) := by
  by_cases hbig : 8192 < s.size
  · have hbI : (8192 : Int) < (s.size : Int) := by omega
    go_enter Tryd.func20, Tryd.ntmps20
    go_wp2_with fail
    go_ret3
    exact ⟨Below.refl _ _, .inl ⟨by rw [bs_length]; exact hbig, rfl⟩⟩
  have hbI : ¬ (8192 : Int) < (s.size : Int) := by omega
  have hsm : s.size ≤ 8192 := by omega
  have HLS := Lib.hid (bs_length s)
  have HSK := Lib.hid (fun (a : Nat) (ha : a ≤ s.size) W => rblank_any s a (by omega) ha W)
  obtain ⟨i0, hi, hz0, hz1, hz2⟩ := info_parts infoTok
  have I0 : TkOwn w (w.alloc (.cells #[] 40)) (.slice (some ⟨w.heap.size, 0, none⟩) 0 0) [] := ⟨World.ownsRow_made (e := 40) (size := 3) (base := w.heap.size) w #[] 0 (Nat.le_refl _) (by unfold maxLen; omega) rfl, al1 _ _⟩
  have HA0 : Hid (Kx.lexA (bs s) = Kx.lexR s.size ((bs s).drop (s.size - (Kx.skipL false ((bs s).drop 0)).length))) := Lib.hid (by
    unfold Kx.lexA
    have := Kx.skip_drop false (bs s)
    rw [bs_length] at this
    rw [bs_length, List.drop_zero, ← this])
  have HHD0 : Hid (Kx.hdOk ((bs s).drop (s.size - (Kx.skipL false ((bs s).drop 0)).length))) := Lib.hid (by
    have := Kx.skip_drop false (bs s)
    rw [bs_length] at this
    rw [List.drop_zero, ← this]; exact Kx.skip_hd _ _)
  go_enter Tryd.func20, Tryd.ntmps20
  go_wp2_with fail
  refine (HSK.out 0 (Nat.zero_le _) _).mono ?_
  rintro e w' ⟨rfl, rfl⟩
  go_wp2_with fail
  go_loopw [5, 6] (fun tv av wr => ∃ (a : Nat) (ts : List Kx.Tk), a ≤ s.size ∧ av = .int .i64 (a : Int) ∧ TkOwn w wr tv ts ∧ Hid (ts.length ≤ a ∧ Kx.lexA (bs s) = (ts ++ (Kx.lexR s.size ((bs s).drop a)).1, (Kx.lexR s.size ((bs s).drop a)).2))) (fun _ av _ => s.size - (intOf av).toNat)
  case atStart => exact ⟨s.size - (Kx.skipL false ((bs s).drop 0)).length, [], Nat.sub_le _ _, rfl, I0, Lib.hid ⟨Nat.zero_le _, by rw [HA0.out]; rfl⟩⟩
  case round =>
    clear I0 HA0 HHD0
    obtain ⟨a, ts, ha, rfl, I, hq⟩ := hrel
    by_cases hal : a < s.size
    · have haI : (a : Int) < (s.size : Int) := by omega
      obtain ⟨A', c', rfl⟩ := own_slice3 I.own
      have hlne : (bs s).drop a ≠ [] := by rw [drop_at hal]; simp
      have hnx := rtoken_any s a hs hal wr
      have hstep := fun h => Kx.lex_step (L := bs s) (N := s.size) HLS.out hal h
      have hbad := fun h => Kx.lexR_bad (N := s.size) hlne h
      have hpos := fun h => Kx.tk_pos (l := (bs s).drop a) h
      have hll : ((bs s).drop a).length = s.size - a := by rw [List.length_drop, HLS.out]
      unfold RtkRes at hnx
      revert hnx hstep hbad hpos
      generalize Kx.tk ((bs s).drop a) = q
      obtain ⟨k, n, c⟩ := q
      dsimp only
      intro hnx hstep hbad hpos
      have htl : (((bs s).drop a).take n).length ≤ 100000 := by rw [List.length_take]; omega
      have HST := Lib.hid hstep
      have HBD := Lib.hid hbad
      have HPS := Lib.hid hpos
      have HLL := Lib.hid hll
      have HTL : Hid (c = 0 → (mkB (((bs s).drop a).take n)).size = n) := Lib.hid fun h => by
        rw [mk_size, List.length_take]; have := (hpos h).2; omega
      have HLN := Lib.hid hlne
      clear hstep hbad hpos hlne hll htl
      revert hnx HTL HST
      generalize ((bs s).drop a).take n = t
      intro hnx HST HTL
      unfold tokV at hnx
      go_wp2_with fail
      refine hnx.mono ?_
      clear hnx
      rintro e w1 ⟨b1, ⟨hc0, rfl⟩ | ⟨hc0, rfl⟩⟩
      · subst hc0
        have T3 := Three.new_ w1 (.int .i64 k) (.string (mkB t)) (.int .i64 (a : Int)) 40
        have b2 := bTrans b1 (al1 w1 (.cells #[.int .i64 k, .string (mkB t), .int .i64 (a : Int)] 40))
        have hb7 : wr.heap.size ≤ w1.heap.size := b1.size
        have I3 := I.below b2
        have hblk := I.blk
        clear b1 b2
        have hqn := Lib.hid (HST.out rfl)
        have hnp := HPS.out rfl
        rw [HLL.out] at hnp
        have hsz := HTL.out rfl
        have hne7 : some w1.heap.size ≠ (Value.slice A' ts.length c').ownBlock := fun e => by have := hblk _ e.symm; omega
        have HN7 := Lib.hid hne7
        clear hne7 hblk HST HTL HBD HPS HLL I
        have c0 := T3.c0
        have c1 := T3.c1
        have c2 := T3.c2
        have ho := I3.own
        have hts : Hid (ts.length ≤ 8192) := Lib.hid (by have := hq.out.1; omega)
        go_wp2_with (at_builtin; refine wpList_append_own _ rfl _ _ 33 rfl w.heap.size 40 i0 (.agg #[.int .i64 0, .string ⟨#[]⟩, .int .i64 0]) 3 32 Tryd.underlying33 hi hz0 hz1 hz2 rfl (by decide) _ _ _ rfl (ho.alloc _) ⟨_, 0, none⟩ 1 1 [.int .i64 k, .string (mkB t), .int .i64 (a : Int)] rfl rfl ?c1 ?c2 ?c3 ?c4 ?c5 ?_)
        case c1 =>
          intro j u hu
          have hq := cell_of_row _ (w1.alloc (.cells #[.int .i64 k, .string (mkB t), .int .i64 (a : Int)] 40)).heap.size (0 + j) _ _ _ (heap_alloc_new (w1.alloc (.cells #[.int .i64 k, .string (mkB t), .int .i64 (a : Int)] 40)) (.cells #[.int .i64 k, .string (mkB t), .int .i64 (a : Int)] 40))
          rw [World.size_alloc] at hq
          rw [Go.WideShapes.add_plain]
          refine Eq.trans hq ?_
          rw [Nat.zero_add]
          simpa using hu
        case c2 => intro u hu; simp at hu; rcases hu with rfl | rfl | rfl <;> rfl
        case c3 => have := hts.out; unfold maxLen; omega
        case c4 => have := hts.out; omega
        case c5 => have := I3.bel.size; rw [World.size_alloc] at this; first | omega | (simp; omega)
        intro v' w4 hown' hgrow _
        have I4 := I3.snoc (t := ⟨k, t, a⟩) hown' hgrow
        have T4 := (T3.below (al1 (w1.alloc (.cells #[.int .i64 k, .string (mkB t), .int .i64 (a : Int)] 40)) (.cells #[.int .i64 k, .string (mkB t), .int .i64 (a : Int)] 40)) T3.lt).grown hgrow HN7.out
        clear hown' hgrow ho I3 T3 c0 c1 c2
        have c1 := T4.c1
        have hsum : (a : Int) + (n : Int) = ((a + n : Nat) : Int) := by omega
        have hsk := HSK.out (a + n) (by omega) w4
        rw [← hsum] at hsk
        have HSN := Lib.hid hsk
        clear hsk hsum
        go_wp2_with fail
        refine HSN.out.mono ?_
        rintro e w' ⟨rfl, rfl⟩
        go_wp2_with fail
        go_roundw
        case rel =>
          refine ⟨s.size - (Kx.skipL false ((bs s).drop (a + n))).length, ts ++ [⟨k, t, a⟩], Nat.sub_le _ _, rfl, I4, Lib.hid ⟨?_, ?_⟩⟩
          · have h1 := Kx.skip_len false ((bs s).drop (a + n))
            rw [List.length_drop, HLS.out] at h1
            have h2 := hq.out.1
            rw [List.length_append]
            simp; omega
          · rw [hq.out.2, hqn.out, List.append_assoc]; rfl
        case measure =>
          have h1 := Kx.skip_len false ((bs s).drop (a + n))
          rw [List.length_drop, HLS.out] at h1
          simp [intOf]; omega
      · have hcb : (c != 0) = true := by simpa using hc0
        have I3 := I.below b1
        have HR : Hid ((Kx.lexA (bs s)).2 = some (a, c)) := Lib.hid (by
          rw [hq.out.2, HBD.out hc0, HLL.out]
          show some (s.size - (s.size - a), c) = some (a, c)
          rw [show s.size - (s.size - a) = a by omega])
        have HC0 := Lib.hid hc0
        clear hc0
        go_wp2_with fail
        go_ret3
        exact ⟨bTrans I3.bel (al1 _ _), .inr (.inl ⟨by rw [HLS.out]; exact hsm, a, c, HR.out, HC0.out, rfl⟩)⟩
    · obtain rfl : a = s.size := by omega
      obtain ⟨A', c', rfl⟩ := own_slice3 I.own
      have hE : Hid (Kx.lexA (bs s) = (ts, none)) := Lib.hid (by
        have := hq.out.2
        rw [List.drop_of_length_le (by rw [HLS.out]; exact Nat.le_refl _), Kx.lexR_nil] at this
        rw [this]; simp)
      have htk := I.toks
      have hbel := I.bel
      clear hq I
      go_wp2_with fail
      go_ret3
      exact ⟨hbel, .inr (.inr ⟨by rw [HLS.out]; exact hsm, by rw [hE.out], A', c', by rw [hE.out]; rfl, by rw [hE.out]; exact htk⟩)⟩
end Go.Proofs.YtcckocaaoklibaaDoor
