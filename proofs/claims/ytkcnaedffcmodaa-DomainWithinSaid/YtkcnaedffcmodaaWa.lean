/- Walks: Inputs of the package. -/
import Derived.Test.YtkcnaedffcmodaaW9
namespace Go.Proofs.Ytkcnaedffcmodaa
open Go.RowKit Go.Maps
set_option linter.unusedVariables false

/-- the block b holds the three values x, y and z -/
structure Three (w : World) (b : Nat) (x y z : Value) : Prop where
  blk : ∃ T, w.heap[b]? = some (.cells #[x, y, z] T (0, 0))
section
variable {w w' : World} {b : Nat} {x y z : Value}
theorem Three.lt (h : Three w b x y z) : b < w.heap.size := by obtain ⟨T, h⟩ := h.blk; exact (Array.getElem?_eq_some_iff.1 h).1
theorem Three.c0 (h : Three w b x y z) : w.cell? ⟨b, 0, none⟩ = some x := by obtain ⟨T, h⟩ := h.blk; rw [cell_of_row w b 0 _ _ _ h]; rfl
theorem Three.c1 (h : Three w b x y z) : w.cell? ⟨b, 1, none⟩ = some y := by obtain ⟨T, h⟩ := h.blk; rw [cell_of_row w b 1 _ _ _ h]; rfl
theorem Three.c2 (h : Three w b x y z) : w.cell? ⟨b, 2, none⟩ = some z := by obtain ⟨T, h⟩ := h.blk; rw [cell_of_row w b 2 _ _ _ h]; rfl
theorem Three.fr (h : Three w b x y z) (k : Nat) : w.frozen? ⟨b, k, none⟩ = false := by obtain ⟨T, h⟩ := h.blk; exact frozen_of_row w b k _ _ h
theorem Three.new_ (w : World) (x y z : Value) (T : TypeId) : Three (w.alloc (.cells #[x, y, z] T)) w.heap.size x y z := ⟨T, heap_alloc_new w _⟩
theorem Three.below {B : Nat} (h : Three w b x y z) (hb : Below B w w') (hB : b < B) : Three w' b x y z := by
  obtain ⟨T, h⟩ := h.blk
  exact ⟨T, (hb.block b hB).trans h⟩
theorem Three.put (h : Three w b x y z) (u v t : Value) : Three (((w.setCell ⟨b, 0, none⟩ u).setCell ⟨b, 1, none⟩ v).setCell ⟨b, 2, none⟩ t) b u v t := by
  obtain ⟨T, h⟩ := h.blk
  exact ⟨T, by simp [World.setCell, Array.getElem?_modify, h]⟩
end

theorem Ints.put3 {w : World} {A : Option Addr} {zs : List Int} (h : Ints w w.heap.size A zs) {b : Nat} {a1 a2 a3 : Option Addr} {n1 c1 n2 c2 n3 c3 : Nat} (t : Three w b (.slice a1 n1 c1) (.slice a2 n2 c2) (.slice a3 n3 c3)) (u v x : Value) :
    Ints (((w.setCell ⟨b, 0, none⟩ u).setCell ⟨b, 1, none⟩ v).setCell ⟨b, 2, none⟩ x) (((w.setCell ⟨b, 0, none⟩ u).setCell ⟨b, 1, none⟩ v).setCell ⟨b, 2, none⟩ x).heap.size A zs := by
  have hsz : (((w.setCell ⟨b, 0, none⟩ u).setCell ⟨b, 1, none⟩ v).setCell ⟨b, 2, none⟩ x).heap.size = w.heap.size := by simp [World.setCell]
  rw [hsz]
  refine ⟨⟨fun hn => ?_⟩, h.lo⟩
  obtain ⟨g, off, e, hb, hc⟩ := h.row.cells hn
  have hne : g ≠ b := by
    intro hgb
    subst hgb
    rw [List.length_map] at hn
    have h0 := hc 0 (.int .i64 zs[0]) (by rw [List.getElem?_map, List.getElem?_eq_getElem hn]; rfl)
    obtain ⟨T, ht⟩ := t.blk
    rw [Nat.add_zero, cell_of_row w g off _ _ _ ht] at h0
    match off, h0 with
    | 0, h0 => simp at h0
    | 1, h0 => simp at h0
    | 2, h0 => simp at h0
    | k + 3, h0 => simp at h0
  refine ⟨g, off, e, hb, fun k z hz => ?_⟩
  have q : ∀ (W : World) (j : Nat) (y : Value), (W.setCell ⟨b, j, none⟩ y).cell? ⟨g, off + k, none⟩ = W.cell? ⟨g, off + k, none⟩ := fun W j y => World.cell?_of_block (w := W) (Below.heap_setCell W ⟨b, j, none⟩ y g hne)
  rw [q, q, q]
  exact hc k z hz

/-- three lists of numbers -/
def inpV (A1 : Option Addr) (n1 c1 : Nat) (A2 : Option Addr) (n2 c2 : Nat) (A3 : Option Addr) (n3 c3 : Nat) : Value := .agg #[.slice A1 n1 c1, .slice A2 n2 c2, .slice A3 n3 c3]
namespace Kd
def inC (vs : List V) (s p r : Int) : Int := if uaC 1 vs s ≠ 0 then uaC 1 vs s else if uaC 2 vs p ≠ 0 then uaC 2 vs p else uaC 3 vs r
def inZ (vs : List V) (s p r : Int) (l : List Int) : List Int := if inC vs s p r = 0 then l else []
end Kd
/-- what Inputs hands back -/
def InpRes (vs : List Kd.V) (s p r : Int) (w : World) (e : Ending) (w' : World) : Prop :=
  ∃ A1 c1 A2 c2 A3 c3, e = .returned (.tuple #[.agg #[.slice A1 (Kd.inZ vs s p r (Kd.uaX 1 vs s)).length c1, .slice A2 (Kd.inZ vs s p r (Kd.uaX 2 vs p)).length c2, .slice A3 (Kd.inZ vs s p r (Kd.uaX 3 vs r)).length c3], .int .i64 (Kd.inC vs s p r)])
    ∧ Ints w' w'.heap.size A1 (Kd.inZ vs s p r (Kd.uaX 1 vs s)) ∧ Ints w' w'.heap.size A2 (Kd.inZ vs s p r (Kd.uaX 2 vs p)) ∧ Ints w' w'.heap.size A3 (Kd.inZ vs s p r (Kd.uaX 3 vs r)) ∧ Below w.heap.size w w'
theorem InpRes.bad {vs : List Kd.V} {s p r C : Int} (h : Kd.inC vs s p r = C) (hC : C ≠ 0) {w : World} (w' : World) (hb : Below w.heap.size w w') : InpRes vs s p r w (.returned (.tuple #[.agg #[.slice none 0 0, .slice none 0 0, .slice none 0 0], .int .i64 C])) w' := by
  have hz : ∀ l, Kd.inZ vs s p r l = [] := fun l => if_neg (by rw [h]; exact hC)
  refine ⟨none, 0, none, 0, none, 0, ?_, ?_, ?_, ?_, hb⟩
  · rw [hz, hz, hz, h]; rfl
  · rw [hz]; exact Ints.nil _ _ _
  · rw [hz]; exact Ints.nil _ _ _
  · rw [hz]; exact Ints.nil _ _ _
theorem InpRes.bad1 {vs : List Kd.V} {s p r : Int} (h : Kd.uaC 1 vs s ≠ 0) {w : World} (w' : World) (hb : Below w.heap.size w w') : InpRes vs s p r w (.returned (.tuple #[.agg #[.slice none 0 0, .slice none 0 0, .slice none 0 0], .int .i64 (Kd.uaC 1 vs s)])) w' :=
  InpRes.bad (by unfold Kd.inC; rw [if_pos h]) h w' hb
theorem InpRes.bad2 {vs : List Kd.V} {s p r : Int} (h1 : Kd.uaC 1 vs s = 0) (h : Kd.uaC 2 vs p ≠ 0) {w : World} (w' : World) (hb : Below w.heap.size w w') : InpRes vs s p r w (.returned (.tuple #[.agg #[.slice none 0 0, .slice none 0 0, .slice none 0 0], .int .i64 (Kd.uaC 2 vs p)])) w' :=
  InpRes.bad (by unfold Kd.inC; rw [if_neg (fun e => e h1), if_pos h]) h w' hb
theorem InpRes.bad3 {vs : List Kd.V} {s p r : Int} (h1 : Kd.uaC 1 vs s = 0) (h2 : Kd.uaC 2 vs p = 0) (h : Kd.uaC 3 vs r ≠ 0) {w : World} (w' : World) (hb : Below w.heap.size w w') : InpRes vs s p r w (.returned (.tuple #[.agg #[.slice none 0 0, .slice none 0 0, .slice none 0 0], .int .i64 (Kd.uaC 3 vs r)])) w' :=
  InpRes.bad (by unfold Kd.inC; rw [if_neg (fun e => e h1), if_neg (fun e => e h2)]) h w' hb
theorem InpRes.ok {vs : List Kd.V} {s p r : Int} (h1 : Kd.uaC 1 vs s = 0) (h2 : Kd.uaC 2 vs p = 0) (h3 : Kd.uaC 3 vs r = 0) {w : World} (w' : World) (A1 : Option Addr) (c1 : Nat) (A2 : Option Addr) (c2 : Nat) (A3 : Option Addr) (c3 : Nat) (hb : Below w.heap.size w w') (i1 : Ints w' w'.heap.size A1 (Kd.uaX 1 vs s)) (i2 : Ints w' w'.heap.size A2 (Kd.uaX 2 vs p)) (i3 : Ints w' w'.heap.size A3 (Kd.uaX 3 vs r)) :
    InpRes vs s p r w (.returned (.tuple #[.agg #[.slice A1 (Kd.uaX 1 vs s).length c1, .slice A2 (Kd.uaX 2 vs p).length c2, .slice A3 (Kd.uaX 3 vs r).length c3], .int .i64 0])) w' := by
  have hc : Kd.inC vs s p r = 0 := by unfold Kd.inC; rw [if_neg (fun e => e h1), if_neg (fun e => e h2), h3]
  have hz : ∀ l, Kd.inZ vs s p r l = l := fun l => if_pos hc
  refine ⟨A1, c1, A2, c2, A3, c3, ?_, ?_, ?_, ?_, hb⟩
  · rw [hz, hz, hz, hc]
  · rw [hz]; exact i1
  · rw [hz]; exact i2
  · rw [hz]; exact i3

set_option maxRecDepth 100000 in
set_option maxHeartbeats 2000000 in
theorem inputs_all (A : Option Addr) (c : Nat) (vs : List Kd.V) (s p r : Int) (w : World) (h : Vrs w w.heap.size A vs) (hl : vs.length ≤ 1000000) :
    Calls Try.prog 21 #[.slice A vs.length c, .int .i64 s, .int .i64 p, .int .i64 r] w (InpRes vs s p r w) := by
  have t0 := Three.new_ w (.slice none 0 0) (.slice none 0 0) (.slice none 0 0) 42
  have b0 := newB1 w (.cells #[.slice none 0 0, .slice none 0 0, .slice none 0 0] 42)
  go_enter Try.func21, Try.ntmps21
  go_wp2_with fail
  have h1 := h.at b0
  clear h
  have HL := Lib.hid hl
  revert t0 b0 h1
  generalize w.alloc (.cells #[.slice none 0 0, .slice none 0 0, .slice none 0 0] 42) = w1
  intro t0 b0 h1
  refine (unrank_all A c vs 1 s _ h1 hl).mono ?_
  rintro e w2 ⟨A2, c2, rfl, I2, n2⟩
  have t2 := t0.below n2 t0.lt
  have B2 := bTrans b0 n2
  have h2 := h1.at n2
  clear t0 b0 h1 n2
  by_cases e1 : Kd.uaC 1 vs s = 0
  case neg =>
    have g1 : (Kd.uaC 1 vs s != 0) = true := by simpa using e1
    have HR := Lib.hid (InpRes.bad1 (w := w) (p := p) (r := r) e1)
    have x0 := t2.c0
    have x1 := t2.c1
    have x2 := t2.c2
    have xf := t2.fr
    have y := t2.put (.slice none 0 0) (.slice none 0 0) (.slice none 0 0)
    have y0 := y.c0
    have y1 := y.c1
    have y2 := y.c2
    have BB := (B2.setCell (p := ⟨w.heap.size, 0, none⟩) (by simp) (.slice none 0 0)).setCell (p := ⟨w.heap.size, 1, none⟩) (by simp) (.slice none 0 0) |>.setCell (p := ⟨w.heap.size, 2, none⟩) (by simp) (.slice none 0 0)
    have E1 := Lib.hid e1
    clear e1 y
    go_wp2_with fail
    exact bodyPost_ret (v := .tuple #[.agg #[.slice none 0 0, .slice none 0 0, .slice none 0 0], .int .i64 (Kd.uaC 1 vs s)]) (by simp [results, Try.results21, go_sem, y0, y1, y2]) rfl (HR.out _ BB)
  have E1 := Lib.hid e1
  rw [e1]
  clear e1
  go_wp2_with fail
  refine (unrank_all A c vs 2 p _ h2 hl).mono ?_
  rintro e w3 ⟨A3, c3, rfl, I3, n3⟩
  have t3 := t2.below n3 t2.lt
  have B3 := bTrans B2 n3
  have h3 := h2.at n3
  have J3 := I2.at n3
  clear t2 B2 h2 n3 I2
  by_cases e2 : Kd.uaC 2 vs p = 0
  case neg =>
    have g1 : (Kd.uaC 2 vs p != 0) = true := by simpa using e2
    have HR := Lib.hid (InpRes.bad2 (w := w) (r := r) E1.out e2)
    have x0 := t3.c0
    have x1 := t3.c1
    have x2 := t3.c2
    have xf := t3.fr
    have y := t3.put (.slice none 0 0) (.slice none 0 0) (.slice none 0 0)
    have y0 := y.c0
    have y1 := y.c1
    have y2 := y.c2
    have BB := (B3.setCell (p := ⟨w.heap.size, 0, none⟩) (by simp) (.slice none 0 0)).setCell (p := ⟨w.heap.size, 1, none⟩) (by simp) (.slice none 0 0) |>.setCell (p := ⟨w.heap.size, 2, none⟩) (by simp) (.slice none 0 0)
    have E2 := Lib.hid e2
    clear e2 y
    go_wp2_with fail
    exact bodyPost_ret (v := .tuple #[.agg #[.slice none 0 0, .slice none 0 0, .slice none 0 0], .int .i64 (Kd.uaC 2 vs p)]) (by simp [results, Try.results21, go_sem, y0, y1, y2]) rfl (HR.out _ BB)
  have E2 := Lib.hid e2
  rw [e2]
  clear e2
  go_wp2_with fail
  refine (unrank_all A c vs 3 r _ h3 hl).mono ?_
  rintro e w4 ⟨A4, c4, rfl, I4, n4⟩
  have t4 := t3.below n4 t3.lt
  have B4 := bTrans B3 n4
  have K4 := J3.at n4
  have J4 := I3.at n4
  clear t3 B3 h3 n4 I3 J3
  have x0 := t4.c0
  have x1 := t4.c1
  have x2 := t4.c2
  have xf := t4.fr
  by_cases e3 : Kd.uaC 3 vs r = 0
  case neg =>
    have g1 : (Kd.uaC 3 vs r != 0) = true := by simpa using e3
    have HR := Lib.hid (InpRes.bad3 (w := w) E1.out E2.out e3)
    have y := t4.put (.slice none 0 0) (.slice none 0 0) (.slice none 0 0)
    have y0 := y.c0
    have y1 := y.c1
    have y2 := y.c2
    have BB := (B4.setCell (p := ⟨w.heap.size, 0, none⟩) (by simp) (.slice none 0 0)).setCell (p := ⟨w.heap.size, 1, none⟩) (by simp) (.slice none 0 0) |>.setCell (p := ⟨w.heap.size, 2, none⟩) (by simp) (.slice none 0 0)
    have E3 := Lib.hid e3
    clear e3 y
    go_wp2_with fail
    exact bodyPost_ret (v := .tuple #[.agg #[.slice none 0 0, .slice none 0 0, .slice none 0 0], .int .i64 (Kd.uaC 3 vs r)]) (by simp [results, Try.results21, go_sem, y0, y1, y2]) rfl (HR.out _ BB)
  have HR := Lib.hid (InpRes.ok (w := w) E1.out E2.out e3)
  rw [e3]
  clear e3
  have y := t4.put (.slice A2 (Kd.uaX 1 vs s).length c2) (.slice A3 (Kd.uaX 2 vs p).length c3) (.slice A4 (Kd.uaX 3 vs r).length c4)
  have y0 := y.c0
  have y1 := y.c1
  have y2 := y.c2
  have BB := (B4.setCell (p := ⟨w.heap.size, 0, none⟩) (by simp) (.slice A2 (Kd.uaX 1 vs s).length c2)).setCell (p := ⟨w.heap.size, 1, none⟩) (by simp) (.slice A3 (Kd.uaX 2 vs p).length c3) |>.setCell (p := ⟨w.heap.size, 2, none⟩) (by simp) (.slice A4 (Kd.uaX 3 vs r).length c4)
  have hlt := t4.lt
  have HT := Lib.hid t4
  clear y t4
  go_wp2_with fail
  refine bodyPost_ret (v := .tuple #[.agg #[.slice A2 (Kd.uaX 1 vs s).length c2, .slice A3 (Kd.uaX 2 vs p).length c3, .slice A4 (Kd.uaX 3 vs r).length c4], .int .i64 0]) (by simp [results, Try.results21, go_sem, y0, y1, y2]) rfl (HR.out _ _ _ _ _ _ _ BB ?_ ?_ ?_)
  · exact K4.put3 HT.out _ _ _
  · exact J4.put3 HT.out _ _ _
  · exact I4.put3 HT.out _ _ _
end Go.Proofs.Ytkcnaedffcmodaa
