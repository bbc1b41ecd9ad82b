/- Walks: the reference's Equal; Subset. -/
import Derived.Test.YtckenemkfegopaaDoorWb
namespace Go.Proofs.YtckenemkfegopaaDoor
open Go.RowKit
set_option linter.unusedVariables false

theorem eqB_va {sa sb : Int} {wa wb : List Nat} (h : Kb.validB sa wa = false) : eqB sa wa sb wb = false := by unfold eqB; rw [h]; rfl
theorem eqB_vb {sa sb : Int} {wa wb : List Nat} (h : Kb.validB sb wb = false) : eqB sa wa sb wb = false := by unfold eqB; rw [h]; simp
theorem eqB_s {sa sb : Int} {wa wb : List Nat} (h : sa ≠ sb) : eqB sa wa sb wb = false := by unfold eqB; simp [h]
theorem eqB_eq {sa sb : Int} {wa wb : List Nat} (ha : Kb.validB sa wa = true) (hb : Kb.validB sb wb = true) (h : sa = sb) : eqB sa wa sb wb = (wa == wb) := by unfold eqB; rw [ha, hb, h]; simp
theorem len_of_valid {sa : Int} {wa : List Nat} (hlt : ∀ x ∈ wa, x < 2 ^ 64) (h : Kb.validB sa wa = true) : wa.length = Kb.nw sa.toNat := ((Kb.validB_iff hlt).1 h).2.2.len

/-- subset? -/
def subB (sa : Int) (wa : List Nat) (sb : Int) (wb : List Nat) : Bool := Kb.validB sa wa && Kb.validB sb wb && (sa == sb) && (List.range sa.toNat).all fun i => !Kb.bitAt wa i || Kb.bitAt wb i
theorem subB_va {sa sb : Int} {wa wb : List Nat} (h : Kb.validB sa wa = false) : subB sa wa sb wb = false := by unfold subB; rw [h]; rfl
theorem subB_vb {sa sb : Int} {wa wb : List Nat} (h : Kb.validB sb wb = false) : subB sa wa sb wb = false := by unfold subB; rw [h]; simp
theorem subB_s {sa sb : Int} {wa wb : List Nat} (h : sa ≠ sb) : subB sa wa sb wb = false := by unfold subB; simp [h]
theorem subB_no {sa sb : Int} {wa wb : List Nat} (hlt : ∀ x ∈ wa, x < 2 ^ 64) (j : Nat) (ha : Kb.bitAt wa j = true) (hb : Kb.bitAt wb j = false) : subB sa wa sb wb = false := by
  cases hv : Kb.validB sa wa with
  | false => exact subB_va hv
  | true =>
    have hj : j < sa.toNat := by
      rcases Nat.lt_or_ge j sa.toNat with h | h
      · exact h
      · have := ((Kb.validB_iff hlt).1 hv).2.2.tail j h
        rw [ha] at this; cases this
    unfold subB
    have : ((List.range sa.toNat).all fun i => !Kb.bitAt wa i || Kb.bitAt wb i) = false := by
      rw [List.all_eq_false]
      exact ⟨j, List.mem_range.2 hj, by rw [ha, hb]; simp⟩
    rw [this]; simp
theorem subB_yes {sa sb : Int} {wa wb : List Nat} (hva : Kb.validB sa wa = true) (hvb : Kb.validB sb wb = true) (hs : sa = sb) (h : ∀ j, j < sa.toNat → Kb.bitAt wa j = true → Kb.bitAt wb j = true) : subB sa wa sb wb = true := by
  unfold subB
  rw [hva, hvb, hs]
  simp only [Bool.and_self, beq_self_eq_true, Bool.true_and, List.all_eq_true, List.mem_range, Bool.or_eq_true, Bool.not_eq_true']
  intro i hi
  cases hb : Kb.bitAt wa i with
  | false => exact .inl rfl
  | true => exact .inr (h i (by rw [hs]; exact hi) hb)

/-- x &^ y: is a bit of x missing in y? -/
theorem andNot_bits {x y : Nat} (hx : x < 2 ^ 64) (hy : y < 2 ^ 64) : bits BinOp.andNot IntKind.u64 (x : Int) (y : Int) = ((x &&& (18446744073709551615 - y) : Nat) : Int) := u64_andNot_nat x y hx hy
theorem andNot_zero {x y : Nat} (hy : y < 2 ^ 64) (h : x &&& (18446744073709551615 - y) = 0) (j : Nat) (hj : j < 64) (hb : x.testBit j = true) : y.testBit j = true := by
  have h1 := congrArg (·.testBit j) h
  simp only [Nat.testBit_and, Kb.not_testBit _ _ hy, Nat.zero_testBit, hb, hj, decide_true, Bool.true_and, Bool.not_eq_false'] at h1
  exact h1
theorem andNot_some {x y : Nat} (hx : x < 2 ^ 64) (hy : y < 2 ^ 64) (h : x &&& (18446744073709551615 - y) ≠ 0) : ∃ j, j < 64 ∧ x.testBit j = true ∧ y.testBit j = false := by
  apply Classical.byContradiction
  intro hn
  apply h
  apply Nat.eq_of_testBit_eq
  intro j
  rw [Nat.testBit_and, Kb.not_testBit _ _ hy, Nat.zero_testBit]
  by_cases hj : j < 64
  · cases hxj : x.testBit j with
    | false => rfl
    | true =>
      cases hyj : y.testBit j with
      | true => simp
      | false => exact absurd ⟨j, hj, hxj, hyj⟩ hn
  · rw [Kb.testBit_ge hx (by omega)]; rfl

end Go.Proofs.YtckenemkfegopaaDoor
