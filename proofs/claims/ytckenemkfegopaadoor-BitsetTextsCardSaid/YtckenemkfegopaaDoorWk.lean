/- Walks: combine on two sets of one size, with whatever function of words; Union, Intersect, Minus. -/
import Derived.Test.YtckenemkfegopaaDoorWj
import Derived.StillTailTactics
namespace Go.Proofs.YtckenemkfegopaaDoor
open Go.RowKit
set_option linter.unusedVariables false

/-- combine's world in the loop -/
structure CbInv (w wr : World) (g : Nat) (x1 y1 x2 y2 : Value) (vs : List Nat) : Prop where
  t1 : Two wr w.heap.size x1 y1
  t2 : Two wr (w.heap.size + 1) x2 y2
  t3 : Two wr (w.heap.size + 2) (.int .i64 0) (.slice none 0 0)
  row : WBlk wr g vs
  hg : w.heap.size + 2 < g
  bel : Below w.heap.size w wr

/-- the same without the new row -/
structure CaInv (w wr : World) (x1 y1 x2 y2 : Value) : Prop where
  t1 : Two wr w.heap.size x1 y1
  t2 : Two wr (w.heap.size + 1) x2 y2
  t3 : Two wr (w.heap.size + 2) (.int .i64 0) (.slice none 0 0)
  bel : Below w.heap.size w wr
theorem CaInv.new_ (w : World) (x1 y1 x2 y2 : Value) (T : TypeId) : CaInv w (((w.alloc (.cells #[x1, y1] T)).alloc (.cells #[x2, y2] T)).alloc (.cells #[.int .i64 0, .slice none 0 0] T)) x1 y1 x2 y2 where
  t1 := ((Two.new_ _ _ _ _).alloc _).alloc _
  t2 := by simpa using (Two.new_ (w.alloc (.cells #[x1, y1] T)) x2 y2 T).alloc _
  t3 := by simpa using Two.new_ ((w.alloc (.cells #[x1, y1] T)).alloc (.cells #[x2, y2] T)) (.int .i64 0) (.slice none 0 0) T
  bel := (((Below.refl _ _).alloc (Nat.le_refl _) _).alloc (by simp) _).alloc (by simp; omega) _
theorem CaInv.below {w wr wx : World} {x1 y1 x2 y2 : Value} (h : CaInv w wr x1 y1 x2 y2) (hb : Below wr.heap.size wr wx) : CaInv w wx x1 y1 x2 y2 :=
  ⟨h.t1.below hb h.t1.lt, h.t2.below hb h.t2.lt, h.t3.below hb h.t3.lt, h.bel.trans (hb.mono h.bel.size)⟩
theorem CbInv.set_ {w wr : World} {g : Nat} {x1 y1 x2 y2 : Value} {vs : List Nat} (h : CbInv w wr g x1 y1 x2 y2 vs) (k x : Nat) : CbInv w (wr.drew.setCell ⟨g, k, none⟩ (.int .u64 (x : Int))) g x1 y1 x2 y2 (vs.set k x) := by
  have := h.hg
  exact ⟨h.t1.drew.far (by simp; omega) _, h.t2.drew.far (by simp; omega) _, h.t3.drew.far (by simp; omega) _, WBlk.set_ h.row.drew _ _, h.hg, h.bel.drew.setCell (by simp; omega) _⟩

theorem bit_or (x y j : Nat) (hx : x < 2 ^ 64) (hy : y < 2 ^ 64) : (x ||| y).testBit j = (decide (j < 64) && (x.testBit j || y.testBit j)) := by
  rw [Nat.testBit_or]
  by_cases h : j < 64
  · simp [h]
  · rw [Kb.testBit_ge hx (by omega), Kb.testBit_ge hy (by omega)]; simp
theorem bit_and (x y j : Nat) (hx : x < 2 ^ 64) (hy : y < 2 ^ 64) : (x &&& y).testBit j = (decide (j < 64) && (x.testBit j && y.testBit j)) := by
  rw [Nat.testBit_and]
  by_cases h : j < 64
  · simp [h]
  · rw [Kb.testBit_ge hx (by omega)]; simp
theorem bit_minus (x y j : Nat) (hx : x < 2 ^ 64) (hy : y < 2 ^ 64) : (x &&& (18446744073709551615 - y)).testBit j = (decide (j < 64) && (x.testBit j && !y.testBit j)) := by
  rw [Nat.testBit_and, Kb.not_testBit y j hy]
  by_cases h : j < 64
  · simp [h]
  · rw [Kb.testBit_ge hx (by omega)]; simp

theorem cp_end {w wr : World} {g b n m : Nat} {vs : List Nat} {u v : Value} (hr : WBlk wr g vs) (hg : b < g) (hb : Below w.heap.size w wr) (hm : vs.length = m) (hbw : w.heap.size ≤ b) :
    CopyRes n vs w (.returned (.tuple #[setV n (some ⟨g, 0, none⟩) m m, .int .i64 0])) ((wr.setCell ⟨b, 0, none⟩ u).setCell ⟨b, 1, none⟩ v) :=
  ⟨g, by omega, by rw [hm], (hr.far (p := ⟨b, 0, none⟩) (by simp; omega) u).far (p := ⟨b, 1, none⟩) (by simp; omega) v, (hb.setCell (p := ⟨b, 0, none⟩) hbw _).setCell (p := ⟨b, 1, none⟩) hbw _⟩

theorem CopyRes.set {n : Nat} {ws : List Nat} {w w' : World} {e : Ending} (h : CopyRes n ws w e w') (hlt : ∀ x ∈ ws, x < 2 ^ 64) : SetRes n ws w e w' := by
  obtain ⟨g, hg, rfl, hr, hb⟩ := h
  exact ⟨_, _, rfl, hr.words hr.lt hlt, hb⟩

end Go.Proofs.YtckenemkfegopaaDoor
