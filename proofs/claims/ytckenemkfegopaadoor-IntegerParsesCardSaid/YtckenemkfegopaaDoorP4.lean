/- Walks: the reference's Parse. -/
import Derived.Test.YtckenemkfegopaaDoorP3
import Derived.Test.YtckenemkfegopaaDoorWm
namespace Go.Proofs.YtckenemkfegopaaDoor
open Go.RowKit
set_option linter.unusedVariables false

theorem index_run {s : ByteArray} {i : Nat} {x : Int} (h : i < s.size) (hx : ((s[i].toNat : Nat) : Int) = x) (W : World) : (Instr.index 9 (.string s) (.int .i64 (i : Int))).run Tryd.prog W = .ok (.int .u8 x) W := by
  have e : ((i : Nat) : Int).toNat = i := by omega
  rw [run_index_string W _ s _ _ Tryd.underlying9, dif_pos ⟨by omega, by omega⟩, ← hx]
  simp only [e]
/-- the world of a round: the result's box and the words so far -/
structure Rp (w wr : World) (C : Option Addr) (cc : Nat) (o : List Nat) : Prop where
  b : B1 w wr
  o : Sl wr wr.heap.size C cc o
theorem Rp.below {w wr wx : World} {C : Option Addr} {cc : Nat} {o : List Nat} (h : Rp w wr C cc o) (hb : Below wr.heap.size wr wx) : Rp w wx C cc o := ⟨h.b.below hb, h.o.at_ hb (Nat.le_refl _)⟩
theorem Rp.alloc {w wr : World} {C : Option Addr} {cc : Nat} {o : List Nat} (h : Rp w wr C cc o) (x : Obj) : Rp w (wr.alloc x) C cc o := h.below (al1 _ _)
theorem Rp.drew {w wr : World} {C : Option Addr} {cc : Nat} {o : List Nat} (h : Rp w wr C cc o) : Rp w wr.drew C cc o := h.below (bDrew (Below.refl _ _) 1)
theorem newx (W : World) (x : Int) : (W.alloc (.cells #[.int .u32 x] 53)).cell? ⟨W.heap.size, 0, none⟩ = some (.int .u32 x) := by
  rw [cell_of_row _ _ 0 _ _ _ (heap_alloc_new W _)]; rfl

/-- the rest of Parse, behind the sign -/
def restZ (N : Bool) (D : List UInt8) : Int × Int :=
  if !Kt.isNum D || (N && D == [48]) then (6, 0) else if 600 < D.length then (5, 0) else (0, if N then -(Kt.valN D : Int) else (Kt.valN D : Int))
theorem Kt.isNum_all {D : List UInt8} (h : D.all Kt.digC = false) : Kt.isNum D = false := by unfold Kt.isNum; rw [h]; rfl
theorem rz_bad {N : Bool} {D : List UInt8} (h : D.all Kt.digC = false) : restZ N D = (6, 0) := by unfold restZ; rw [Kt.isNum_all h]; rfl
theorem rz_nil (N : Bool) : restZ N [] = (6, 0) := rfl
theorem rz_zero {N : Bool} {r : List UInt8} (h : N = true ∨ r ≠ []) : restZ N (48 :: r) = (6, 0) := by
  unfold restZ
  cases r with
  | nil =>
    rcases h with rfl | h
    · rfl
    · exact absurd rfl h
  | cons c r =>
    have e : Kt.isNum (48 :: c :: r) = false := by
      unfold Kt.isNum
      rw [show ((48 :: c :: r : List UInt8) == [48]) = false from by rw [beq_eq_false_iff_ne]; intro e; injection e with _ e; cases e]
      simp
    rw [e]; rfl
theorem rz_ok {N : Bool} {c : UInt8} {r : List UInt8} (h : (c :: r).all Kt.digC = true) (hc : c ≠ 48 ∨ (N = false ∧ r = [])) :
    restZ N (c :: r) = if 600 < (c :: r).length then (5, 0) else (0, if N then -(Kt.valN (c :: r) : Int) else (Kt.valN (c :: r) : Int)) := by
  unfold restZ
  rw [if_neg]
  rcases hc with hc | ⟨rfl, rfl⟩
  · have e1 : ((c :: r) == [48]) = false := by
      rw [beq_eq_false_iff_ne]
      intro e
      injection e with e
      exact hc e
    have e2 : Kt.isNum (c :: r) = true := by
      unfold Kt.isNum
      rw [h, e1]
      simp [hc]
    rw [e1, e2]; simp
  · have e2 : Kt.isNum [c] = true := by
      unfold Kt.isNum
      rw [h]
      by_cases hz : c = 48
      · rw [hz]; rfl
      · simp [hz]
    rw [e2]; simp
theorem rz_of {t : List UInt8} (h : ¬ 601 < t.length) : Kt.pZ t = restZ (Kt.negB t) (Kt.body t) := by
  unfold Kt.pZ restZ
  rw [if_neg h]
end Go.Proofs.YtckenemkfegopaaDoor
