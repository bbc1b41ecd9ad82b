/- Walks: slices.Equal at words, Equal and the reference's Equal. -/
import Derived.Test.YtckenemkfegopaaDoorW5
import Derived.Test.YtckenemkfegopaaDoorW3
namespace Go.Proofs.YtckenemkfegopaaDoor
open Go.RowKit
set_option linter.unusedVariables false

/-- the same valid set? -/
def eqB (sa : Int) (wa : List Nat) (sb : Int) (wb : List Nat) : Bool := Kb.validB sa wa && Kb.validB sb wb && (sa == sb) && (wa == wb)

theorem list_eq_of {wa wb : List Nat} (hl : wa.length = wb.length) (h : ∀ j, j < wa.length → wa.getD j 0 = wb.getD j 0) : (wa == wb) = true := by
  rw [beq_iff_eq]
  apply List.ext_getElem hl
  intro i h1 h2
  have := h i h1
  rwa [List.getD_eq_getElem?_getD, List.getD_eq_getElem?_getD, List.getElem?_eq_getElem h1, List.getElem?_eq_getElem h2] at this
theorem list_ne_of {wa wb : List Nat} (j : Nat) (h : wa.getD j 0 ≠ wb.getD j 0) : (wa == wb) = false := by
  rw [beq_eq_false_iff_ne]; rintro rfl; exact h rfl
theorem list_ne_len {wa wb : List Nat} (h : wa.length ≠ wb.length) : (wa == wb) = false := by
  rw [beq_eq_false_iff_ne]; rintro rfl; exact h rfl

/-- two boxed sets -/
structure TwoB (w wr : World) (sa : Int) (A : Option Addr) (na ca : Nat) (sb : Int) (B : Option Addr) (nb cb : Nat) : Prop where
  t1 : Two wr w.heap.size (.int .i64 sa) (.slice A na ca)
  t2 : Two wr (w.heap.size + 1) (.int .i64 sb) (.slice B nb cb)
  bel : Below w.heap.size w wr
theorem TwoB.below {w wr wx : World} {sa : Int} {A : Option Addr} {na ca : Nat} {sb : Int} {B : Option Addr} {nb cb : Nat} (h : TwoB w wr sa A na ca sb B nb cb) (hb : Below wr.heap.size wr wx) : TwoB w wx sa A na ca sb B nb cb :=
  ⟨h.t1.below hb h.t1.lt, h.t2.below hb h.t2.lt, h.bel.trans (hb.mono h.bel.size)⟩
theorem TwoB.new_ (w : World) (sa : Int) (A : Option Addr) (na ca : Nat) (sb : Int) (B : Option Addr) (nb cb : Nat) (T T' : TypeId) :
    TwoB w ((w.alloc (.cells #[.int .i64 sa, .slice A na ca] T)).alloc (.cells #[.int .i64 sb, .slice B nb cb] T')) sa A na ca sb B nb cb :=
  ⟨(Two.new_ _ _ _ _).alloc _, by simpa using Two.new_ (w.alloc (.cells #[.int .i64 sa, .slice A na ca] T)) (.int .i64 sb) (.slice B nb cb) T', (by repeat (first | exact Below.refl _ _ | refine bDrew ?_ _ | refine Below.drew ?_ | refine Below.alloc ?_ (by simp) _ | refine Below.setCell ?_ (by simp) _))⟩

end Go.Proofs.YtckenemkfegopaaDoor
