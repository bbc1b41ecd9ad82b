/- Rows of tokens; walks: Lex of package lexer. -/
import Derived.Test.YtcckocaaoklibaaDoorW6
import Derived.Deep.OwnRows
import Derived.Deep.DeepCutAuto
import Derived.Maps.AppendAt
namespace Go.Proofs.YtcckocaaoklibaaDoor
open Go.RowKit
set_option linter.unusedVariables false

/-- The slice value with the address A reads, below block B, as the cells xs. -/
structure Row (w : World) (B : Nat) (A : Option Addr) (xs : List Value) : Prop where
  cells : 0 < xs.length → ∃ b off, A = some ⟨b, off, none⟩ ∧ b < B ∧ ∀ k u, xs[k]? = some u → w.cell? ⟨b, off + k, none⟩ = some u
theorem Row.nil (w : World) (B : Nat) (A : Option Addr) : Row w B A [] := ⟨fun h => absurd h (by simp)⟩
theorem Row.keep {w w' : World} {B : Nat} {A : Option Addr} {xs : List Value} (h : Row w B A xs) (hk : ∀ p : Addr, p.block < B → w'.cell? p = w.cell? p) : Row w' B A xs :=
  ⟨fun hn => by
    obtain ⟨b, off, e, hb, hc⟩ := h.cells hn
    exact ⟨b, off, e, hb, fun k u hu => (hk ⟨b, off + k, none⟩ hb).trans (hc k u hu)⟩⟩
theorem Row.more {w : World} {B B' : Nat} {A : Option Addr} {xs : List Value} (h : Row w B A xs) (hB : B ≤ B') : Row w B' A xs :=
  ⟨fun hn => by
    obtain ⟨b, off, e, hb, hc⟩ := h.cells hn
    exact ⟨b, off, e, Nat.lt_of_lt_of_le hb hB, hc⟩⟩
theorem Row.at {w w' : World} {A : Option Addr} {xs : List Value} (h : Row w w.heap.size A xs) (hb : Below w.heap.size w w') : Row w' w'.heap.size A xs := (h.keep fun _ hp => hb.cell hp).more hb.size

/-- tokens as cells -/
def flatT (ts : List Kx.Tk) : List Value := ts.flatMap fun t => [.int .i64 t.kind, .string (mkB t.text), .int .i64 (t.pos : Int)]
theorem flatT_append (a b : List Kx.Tk) : flatT (a ++ b) = flatT a ++ flatT b := by unfold flatT; rw [List.flatMap_append]
theorem flatT_length (ts : List Kx.Tk) : (flatT ts).length = 3 * ts.length := by
  induction ts with
  | nil => rfl
  | cons t ts ih => unfold flatT at ih ⊢; rw [List.flatMap_cons, List.length_append, ih, List.length_cons]; simp; omega
theorem flatT_at (ts : List Kx.Tk) {k : Nat} (hk : k < ts.length) : (flatT ts)[3 * k]? = some (.int .i64 ts[k].kind) ∧ (flatT ts)[3 * k + 1]? = some (.string (mkB ts[k].text)) ∧ (flatT ts)[3 * k + 2]? = some (.int .i64 (ts[k].pos : Int)) := by
  induction ts generalizing k with
  | nil => simp at hk
  | cons t ts ih =>
    have e : flatT (t :: ts) = .int .i64 t.kind :: .string (mkB t.text) :: .int .i64 (t.pos : Int) :: flatT ts := rfl
    rw [e]
    cases k with
    | zero => exact ⟨rfl, rfl, rfl⟩
    | succ k =>
      have h := ih (k := k) (by simpa using hk)
      rw [show 3 * (k + 1) = 3 * k + 1 + 1 + 1 by omega]
      simpa using h
/-- a row of tokens -/
structure Toks (w : World) (B : Nat) (A : Option Addr) (ts : List Kx.Tk) : Prop where
  row : Row w B A (flatT ts)
theorem Toks.at {w w' : World} {A : Option Addr} {ts : List Kx.Tk} (h : Toks w w.heap.size A ts) (hb : Below w.heap.size w w') : Toks w' w'.heap.size A ts := ⟨h.row.at hb⟩
theorem Toks.at_ {w : World} {B : Nat} {A : Option Addr} {ts : List Kx.Tk} (h : Toks w B A ts) {k : Nat} (hk : k < ts.length) :
    ∃ b off, A = some ⟨b, off, none⟩ ∧ b < B ∧ w.cell? ⟨b, off + k * 3, none⟩ = some (.int .i64 ts[k].kind) ∧ w.cell? ⟨b, off + k * 3 + 1, none⟩ = some (.string (mkB ts[k].text)) ∧ w.cell? ⟨b, off + k * 3 + 2, none⟩ = some (.int .i64 (ts[k].pos : Int)) := by
  obtain ⟨b, off, e, hb, hc⟩ := h.row.cells (by rw [flatT_length]; omega)
  have hf := flatT_at ts hk
  refine ⟨b, off, e, hb, ?_, ?_, ?_⟩
  · rw [Nat.mul_comm]; exact hc _ _ hf.1
  · rw [Nat.mul_comm, Nat.add_assoc]; exact hc _ _ hf.2.1
  · rw [Nat.mul_comm, Nat.add_assoc]; exact hc _ _ hf.2.2

theorem infoTok : (Tryd.prog.info? 40).map (fun i => (i.zero, i.size, i.bytes)) = some (some (.agg #[.int .i64 0, .string ⟨#[]⟩, .int .i64 0]), 3, 32) := by kernel_rfl
theorem own_slice3 {w : World} {base e n : Nat} {v : Value} {xs : List Value} (h : w.ownsRow base e 3 v n xs) : ∃ A c, v = .slice A n c := by
  rcases h.2 with ⟨h0, h1⟩ | ⟨g, cap, cur, hv, _⟩
  · exact ⟨none, 0, by rw [h0, h1]⟩
  · exact ⟨_, _, hv⟩
theorem Row.of_own3 {w : World} {base e : Nat} {A : Option Addr} {n c : Nat} {xs : List Value} (h : w.ownsRow base e 3 (.slice A n c) n xs) : Row w w.heap.size A xs := ⟨fun hn => by
  rcases h.2 with ⟨_, h0⟩ | ⟨g, cap, cur, hv, _, hg, _⟩
  · have := h.1; omega
  · injection hv with h1 h2 h3
    subst h1
    exact ⟨g, 0, rfl, (Array.getElem?_eq_some_iff.1 hg).1, fun k u hu => by
      have := h.cells (g := g) rfl k u hu
      have e : (⟨g, 0, none⟩ : Addr).add k = ⟨g, 0 + k, none⟩ := by unfold Addr.add; split <;> simp_all
      rwa [e] at this⟩⟩
/-- a row of tokens that the call makes -/
structure TkOwn (w wr : World) (v : Value) (ts : List Kx.Tk) : Prop where
  own : wr.ownsRow w.heap.size 40 3 v ts.length (flatT ts)
  bel : Below w.heap.size w wr
section
variable {w wr w1 w3 : World} {v v' : Value} {ts : List Kx.Tk}
theorem TkOwn.toks {A : Option Addr} {c : Nat} (h : TkOwn w wr (.slice A ts.length c) ts) : Toks wr wr.heap.size A ts := ⟨Row.of_own3 h.own⟩
theorem TkOwn.blk (h : TkOwn w wr v ts) : ∀ g, v.ownBlock = some g → w.heap.size ≤ g ∧ g < wr.heap.size := fun k hk => by
  rcases h.own.2 with ⟨h0, _⟩ | ⟨g, cap, cur, hv, hb, hg, _⟩
  · rw [h0] at hk; simp [Value.ownBlock] at hk
  · rw [hv] at hk; simp [Value.ownBlock] at hk
    subst hk
    exact ⟨hb, (Array.getElem?_eq_some_iff.1 hg).1⟩
theorem TkOwn.below (h : TkOwn w wr v ts) (hb : Below wr.heap.size wr w1) : TkOwn w w1 v ts :=
  ⟨h.own.kept (row := none) ⟨hb.os, hb.tape, hb.output, hb.size, fun k hk _ => hb.block k hk⟩ (by cases hv : v.ownBlock <;> simp), h.bel.trans (hb.mono h.bel.size)⟩
theorem TkOwn.snoc {t : Kx.Tk} {o : Obj} (h : TkOwn w wr v ts)
    (ho : w3.ownsRow w.heap.size 40 3 v' (ts.length + 1) (flatT ts ++ [.int .i64 t.kind, .string (mkB t.text), .int .i64 (t.pos : Int)]))
    (hgr : (wr.alloc o).grownBy w3 v.ownBlock) : TkOwn w w3 v' (ts ++ [t]) where
  own := by
    rw [flatT_append, List.length_append]; exact ho
  bel := by
    refine (h.bel.alloc h.bel.size o).grown hgr (by have := h.bel.size; rw [World.size_alloc]; omega) (fun k hk => ?_)
    exact (h.blk k hk).1
end

namespace Kx
/-- one step of lexing -/
theorem lex_step {N a : Nat} {L : List UInt8} (hN : L.length = N) (ha : a < N) (h : (tk (L.drop a)).2.2 = 0) :
    lexR N (L.drop a) = ((⟨(tk (L.drop a)).1, (L.drop a).take (tk (L.drop a)).2.1, a⟩ : Tk) :: (lexR N (L.drop (N - (skipL false (L.drop (a + (tk (L.drop a)).2.1))).length))).1, (lexR N (L.drop (N - (skipL false (L.drop (a + (tk (L.drop a)).2.1))).length))).2) := by
  have e1 : N - (L.drop a).length = a := by rw [List.length_drop]; omega
  rw [lexR_ok h, e1, List.drop_drop]
  have e2 : skipL false (L.drop (a + (tk (L.drop a)).2.1)) = L.drop (N - (skipL false (L.drop (a + (tk (L.drop a)).2.1))).length) := by
    have h1 := skip_drop false (L.drop (a + (tk (L.drop a)).2.1))
    rw [List.drop_drop] at h1
    have hl := skip_len false (L.drop (a + (tk (L.drop a)).2.1))
    have hp := (tk_pos h).2
    rw [List.length_drop] at hl hp
    have e3 : a + (tk (L.drop a)).2.1 + ((L.drop (a + (tk (L.drop a)).2.1)).length - (skipL false (L.drop (a + (tk (L.drop a)).2.1))).length) = N - (skipL false (L.drop (a + (tk (L.drop a)).2.1))).length := by
      rw [List.length_drop]; omega
    rw [e3] at h1
    exact h1
  rw [← e2]
end Kx

/-- what Lex hands back -/
def LexRes (l : List UInt8) (w : World) (e : Ending) (w' : World) : Prop :=
  Below w.heap.size w w' ∧ ((8192 < l.length ∧ e = .returned (.tuple #[.slice none 0 0, .int .i64 0, .int .i64 5])) ∨
    (l.length ≤ 8192 ∧ ∃ (p : Nat) (c : Int), (Kx.lexA l).2 = some (p, c) ∧ c ≠ 0 ∧ e = .returned (.tuple #[.slice none 0 0, .int .i64 (p : Int), .int .i64 c])) ∨
    (l.length ≤ 8192 ∧ (Kx.lexA l).2 = none ∧ ∃ A cap, e = .returned (.tuple #[.slice A (Kx.lexA l).1.length cap, .int .i64 0, .int .i64 0]) ∧ Toks w' w'.heap.size A (Kx.lexA l).1))

set_option maxRecDepth 100000 in
set_option maxHeartbeats 8000000 in
theorem lex_any (s : ByteArray) (hs : s.size ≤ 100000) (w : World) (hT : LexT w) : Calls Tryd.prog 19 #[.string s] w (LexRes (bs s) w) := by
  by_cases hbig : 8192 < s.size
  · have hbI : (8192 : Int) < (s.size : Int) := by omega
    go_enter Tryd.func19, Tryd.ntmps19
    go_wp2_with fail
    go_ret3
    exact ⟨Below.refl _ _, .inl ⟨by rw [bs_length]; exact hbig, rfl⟩⟩
  have hbI : ¬ (8192 : Int) < (s.size : Int) := by omega
  have hsm : s.size ≤ 8192 := by omega
  have HLS := Lib.hid (bs_length s)
  have HSK := Lib.hid (fun (a : Nat) (ha : a ≤ s.size) W => skip_any s a (by omega) ha W)
  obtain ⟨i0, hi, hz0, hz1, hz2⟩ := info_parts infoTok
  have I0 : TkOwn w w (.slice none 0 0) [] := ⟨⟨rfl, .inl ⟨rfl, rfl⟩⟩, Below.refl _ _⟩
  have HA0 : Hid (Kx.lexA (bs s) = Kx.lexR s.size ((bs s).drop (s.size - (Kx.skipL false ((bs s).drop 0)).length))) := Lib.hid (by
    unfold Kx.lexA
    have := Kx.skip_drop false (bs s)
    rw [bs_length] at this
    rw [bs_length, List.drop_zero, ← this])
  have HHD0 : Hid (Kx.hdOk ((bs s).drop (s.size - (Kx.skipL false ((bs s).drop 0)).length))) := Lib.hid (by
    have := Kx.skip_drop false (bs s)
    rw [bs_length] at this
    rw [List.drop_zero, ← this]; exact Kx.skip_hd _ _)
  go_enter Tryd.func19, Tryd.ntmps19
  go_wp2_with fail
  refine (HSK.out 0 (Nat.zero_le _) _).mono ?_
  rintro e w' ⟨rfl, rfl⟩
  go_wp2_with fail
  go_loopw [5, 6] (fun tv av wr => ∃ (a : Nat) (ts : List Kx.Tk), a ≤ s.size ∧ av = .int .i64 (a : Int) ∧ TkOwn w wr tv ts ∧ Hid (ts.length ≤ a ∧ Kx.lexA (bs s) = (ts ++ (Kx.lexR s.size ((bs s).drop a)).1, (Kx.lexR s.size ((bs s).drop a)).2))) (fun _ av _ => s.size - (intOf av).toNat)
  case atStart => exact ⟨s.size - (Kx.skipL false ((bs s).drop 0)).length, [], Nat.sub_le _ _, rfl, I0, Lib.hid ⟨Nat.zero_le _, by rw [HA0.out]; rfl⟩⟩
  case round =>
    clear I0 HA0 HHD0
    obtain ⟨a, ts, ha, rfl, I, hq⟩ := hrel
    by_cases hal : a < s.size
    · have haI : (a : Int) < (s.size : Int) := by omega
      obtain ⟨A', c', rfl⟩ := own_slice3 I.own
      have hlne : (bs s).drop a ≠ [] := by rw [drop_at hal]; simp
      have hnx := next_any s a hs hal wr (hT.below I.bel)
      have hck0 := ck_tk hlne
      have hstep := fun h => Kx.lex_step (L := bs s) (N := s.size) HLS.out hal h
      have hbad := fun h => Kx.lexR_bad (N := s.size) hlne h
      have hpos := fun h => Kx.tk_pos (l := (bs s).drop a) h
      have hll : ((bs s).drop a).length = s.size - a := by rw [List.length_drop, HLS.out]
      revert hnx hck0 hstep hbad hpos
      generalize Kx.tk ((bs s).drop a) = q
      obtain ⟨k, n, c⟩ := q
      dsimp only
      intro hnx hck0 hstep hbad hpos
      have htl : (((bs s).drop a).take n).length ≤ 100000 := by rw [List.length_take]; omega
      have HST := Lib.hid hstep
      have HBD := Lib.hid hbad
      have HPS := Lib.hid hpos
      have HCK0 := Lib.hid hck0
      have HLL := Lib.hid hll
      have HTL : Hid (c = 0 → (mkB (((bs s).drop a).take n)).size = n) := Lib.hid fun h => by
        rw [mk_size, List.length_take]; have := (hpos h).2; omega
      have hck := fun W (hW : LexT W) => check_any k (((bs s).drop a).take n) a htl W hW
      unfold tokV at hnx hck
      have HCK := Lib.hid hck
      clear hstep hbad hpos hck0 hlne hll htl hck
      revert hnx HCK HCK0 HTL HST
      generalize ((bs s).drop a).take n = t
      intro hnx HST HCK0 HTL HCK
      go_wp2_with fail
      refine hnx.mono ?_
      rintro e w1 ⟨rfl, b1⟩
      clear hnx
      go_wp2_with fail
      have T1 := Three.new_ w1 (.int .i64 k) (.string (mkB t)) (.int .i64 (a : Int)) 40
      have b2 := bTrans b1 (al1 w1 (.cells #[.int .i64 k, .string (mkB t), .int .i64 (a : Int)] 40))
      have hb7 : wr.heap.size ≤ w1.heap.size := b1.size
      refine (HCK.out _ (hT.below (I.below b2).bel)).mono ?_
      rintro e w3 ⟨rfl, b3⟩
      have T3 := T1.below b3 T1.lt
      have I3 := I.below (bTrans b2 b3)
      have hblk := I.blk
      clear T1 b1 b2 b3
      rw [HCK0.out]
      by_cases hc0 : c = 0
      · subst hc0
        have hqn := Lib.hid (HST.out rfl)
        have hnp := HPS.out rfl
        rw [HLL.out] at hnp
        have hsz := HTL.out rfl
        have hne7 : some w1.heap.size ≠ (Value.slice A' ts.length c').ownBlock := fun e => by have := hblk _ e.symm; omega
        have HN7 := Lib.hid hne7
        clear hne7 hblk HST HTL HBD HPS HCK0 HCK HLL
        have c0 := T3.c0
        have c1 := T3.c1
        have c2 := T3.c2
        have ho := I3.own
        have hts : Hid (ts.length ≤ 8192) := Lib.hid (by have := hq.out.1; omega)
        go_wp2_with (at_builtin; refine wpList_append_own _ rfl _ _ 33 rfl w.heap.size 40 i0 (.agg #[.int .i64 0, .string ⟨#[]⟩, .int .i64 0]) 3 32 Tryd.underlying33 hi hz0 hz1 hz2 rfl (by decide) _ _ _ rfl (ho.alloc _) ⟨_, 0, none⟩ 1 1 [.int .i64 k, .string (mkB t), .int .i64 (a : Int)] rfl rfl ?c1 ?c2 ?c3 ?c4 ?c5 ?_)
        case c1 =>
          intro j u hu
          have hq := cell_of_row _ w3.heap.size (0 + j) _ _ _ (heap_alloc_new w3 (.cells #[.int .i64 k, .string (mkB t), .int .i64 (a : Int)] 40))
          rw [Go.WideShapes.add_plain]
          refine Eq.trans hq ?_
          rw [Nat.zero_add]
          simpa using hu
        case c2 => intro u hu; simp at hu; rcases hu with rfl | rfl | rfl <;> rfl
        case c3 => have := hts.out; unfold maxLen; omega
        case c4 => have := hts.out; omega
        case c5 => have := I3.bel.size; first | omega | (simp; omega)
        intro v' w4 hown' hgrow _
        have I4 := I3.snoc (t := ⟨k, t, a⟩) hown' hgrow
        have T4 := (T3.below (al1 w3 (.cells #[.int .i64 k, .string (mkB t), .int .i64 (a : Int)] 40)) T3.lt).grown hgrow HN7.out
        clear hown' hgrow ho I3 T3 c0 c1 c2
        have c1 := T4.c1
        have hsum : (a : Int) + (n : Int) = ((a + n : Nat) : Int) := by omega
        have hsk := HSK.out (a + n) (by omega) w4
        rw [← hsum] at hsk
        have HSN := Lib.hid hsk
        clear hsk hsum
        go_wp2_with fail
        refine HSN.out.mono ?_
        rintro e w' ⟨rfl, rfl⟩
        go_wp2_with fail
        go_roundw
        case rel =>
          refine ⟨s.size - (Kx.skipL false ((bs s).drop (a + n))).length, ts ++ [⟨k, t, a⟩], Nat.sub_le _ _, rfl, I4, Lib.hid ⟨?_, ?_⟩⟩
          · have h1 := Kx.skip_len false ((bs s).drop (a + n))
            rw [List.length_drop, HLS.out] at h1
            have h2 := hq.out.1
            rw [List.length_append]
            simp; omega
          · rw [hq.out.2, hqn.out, List.append_assoc]; rfl
        case measure =>
          have h1 := Kx.skip_len false ((bs s).drop (a + n))
          rw [List.length_drop, HLS.out] at h1
          simp [intOf]; omega
      · have hcb : (c != 0) = true := by simpa using hc0
        have HR : Hid ((Kx.lexA (bs s)).2 = some (a, c)) := Lib.hid (by
          rw [hq.out.2, HBD.out hc0, HLL.out]
          show some (s.size - (s.size - a), c) = some (a, c)
          rw [show s.size - (s.size - a) = a by omega])
        have HC0 := Lib.hid hc0
        clear hc0
        go_wp2_with fail
        go_ret3
        exact ⟨I3.bel, .inr (.inl ⟨by rw [HLS.out]; exact hsm, a, c, HR.out, HC0.out, rfl⟩)⟩
    · obtain rfl : a = s.size := by omega
      obtain ⟨A', c', rfl⟩ := own_slice3 I.own
      have hE : Hid (Kx.lexA (bs s) = (ts, none)) := Lib.hid (by
        have := hq.out.2
        rw [List.drop_of_length_le (by rw [HLS.out]; exact Nat.le_refl _), Kx.lexR_nil] at this
        rw [this]; simp)
      have htk := I.toks
      have hbel := I.bel
      clear hq I
      go_wp2_with fail
      go_ret3
      exact ⟨hbel, .inr (.inr ⟨by rw [HLS.out]; exact hsm, by rw [hE.out], A', c', by rw [hE.out]; rfl, by rw [hE.out]; exact htk⟩)⟩
end Go.Proofs.YtcckocaaoklibaaDoor
