/- Walks: the reference's Equal; Subset. -/
import Derived.Test.YtmdekgbnpbanaaaDoorWb
namespace Go.Proofs.YtmdekgbnpbanaaaDoor
open Go.RowKit
set_option linter.unusedVariables false

theorem eqB_va {sa sb : Int} {wa wb : List Nat} (h : Kb.validB sa wa = false) : eqB sa wa sb wb = false := by unfold eqB; rw [h]; rfl
theorem eqB_vb {sa sb : Int} {wa wb : List Nat} (h : Kb.validB sb wb = false) : eqB sa wa sb wb = false := by unfold eqB; rw [h]; simp
theorem eqB_s {sa sb : Int} {wa wb : List Nat} (h : sa ≠ sb) : eqB sa wa sb wb = false := by unfold eqB; simp [h]
theorem eqB_eq {sa sb : Int} {wa wb : List Nat} (ha : Kb.validB sa wa = true) (hb : Kb.validB sb wb = true) (h : sa = sb) : eqB sa wa sb wb = (wa == wb) := by unfold eqB; rw [ha, hb, h]; simp
theorem len_of_valid {sa : Int} {wa : List Nat} (hlt : ∀ x ∈ wa, x < 2 ^ 64) (h : Kb.validB sa wa = true) : wa.length = Kb.nw sa.toNat := ((Kb.validB_iff hlt).1 h).2.2.len

/-- subset? -/
def subB (sa : Int) (wa : List Nat) (sb : Int) (wb : List Nat) : Bool := Kb.validB sa wa && Kb.validB sb wb && (sa == sb) && (List.range sa.toNat).all fun i => !Kb.bitAt wa i || Kb.bitAt wb i
theorem subB_va {sa sb : Int} {wa wb : List Nat} (h : Kb.validB sa wa = false) : subB sa wa sb wb = false := by unfold subB; rw [h]; rfl
theorem subB_vb {sa sb : Int} {wa wb : List Nat} (h : Kb.validB sb wb = false) : subB sa wa sb wb = false := by unfold subB; rw [h]; simp
theorem subB_s {sa sb : Int} {wa wb : List Nat} (h : sa ≠ sb) : subB sa wa sb wb = false := by unfold subB; simp [h]
theorem subB_no {sa sb : Int} {wa wb : List Nat} (hlt : ∀ x ∈ wa, x < 2 ^ 64) (j : Nat) (ha : Kb.bitAt wa j = true) (hb : Kb.bitAt wb j = false) : subB sa wa sb wb = false := by
  cases hv : Kb.validB sa wa with
  | false => exact subB_va hv
  | true =>
    have hj : j < sa.toNat := by
      rcases Nat.lt_or_ge j sa.toNat with h | h
      · exact h
      · have := ((Kb.validB_iff hlt).1 hv).2.2.tail j h
        rw [ha] at this; cases this
    unfold subB
    have : ((List.range sa.toNat).all fun i => !Kb.bitAt wa i || Kb.bitAt wb i) = false := by
      rw [List.all_eq_false]
      exact ⟨j, List.mem_range.2 hj, by rw [ha, hb]; simp⟩
    rw [this]; simp
theorem subB_yes {sa sb : Int} {wa wb : List Nat} (hva : Kb.validB sa wa = true) (hvb : Kb.validB sb wb = true) (hs : sa = sb) (h : ∀ j, j < sa.toNat → Kb.bitAt wa j = true → Kb.bitAt wb j = true) : subB sa wa sb wb = true := by
  unfold subB
  rw [hva, hvb, hs]
  simp only [Bool.and_self, beq_self_eq_true, Bool.true_and, List.all_eq_true, List.mem_range, Bool.or_eq_true, Bool.not_eq_true']
  intro i hi
  cases hb : Kb.bitAt wa i with
  | false => exact .inl rfl
  | true => exact .inr (h i (by rw [hs]; exact hi) hb)

/-- x &^ y: is a bit of x missing in y? -/
theorem andNot_bits {x y : Nat} (hx : x < 2 ^ 64) (hy : y < 2 ^ 64) : bits BinOp.andNot IntKind.u64 (x : Int) (y : Int) = ((x &&& (18446744073709551615 - y) : Nat) : Int) := u64_andNot_nat x y hx hy
theorem andNot_zero {x y : Nat} (hy : y < 2 ^ 64) (h : x &&& (18446744073709551615 - y) = 0) (j : Nat) (hj : j < 64) (hb : x.testBit j = true) : y.testBit j = true := by
  have h1 := congrArg (·.testBit j) h
  simp only [Nat.testBit_and, Kb.not_testBit _ _ hy, Nat.zero_testBit, hb, hj, decide_true, Bool.true_and, Bool.not_eq_false'] at h1
  exact h1
theorem andNot_some {x y : Nat} (hx : x < 2 ^ 64) (hy : y < 2 ^ 64) (h : x &&& (18446744073709551615 - y) ≠ 0) : ∃ j, j < 64 ∧ x.testBit j = true ∧ y.testBit j = false := by
  apply Classical.byContradiction
  intro hn
  apply h
  apply Nat.eq_of_testBit_eq
  intro j
  rw [Nat.testBit_and, Kb.not_testBit _ _ hy, Nat.zero_testBit]
  by_cases hj : j < 64
  · cases hxj : x.testBit j with
    | false => rfl
    | true =>
      cases hyj : y.testBit j with
      | true => simp
      | false => exact absurd ⟨j, hj, hxj, hyj⟩ hn
  · rw [Kb.testBit_ge hx (by omega)]; rfl

set_option maxRecDepth 100000 in
set_option maxHeartbeats 400000 in
theorem requal_any (sa : Int) (A : Option Addr) (ca : Nat) (wa : List Nat) (sb : Int) (B : Option Addr) (cb : Nat) (wb : List Nat) (w : World) (ha : Words w w.heap.size A wa) (hb : Words w w.heap.size B wb) (hla : wa.length ≤ 140737488351232) (hlb : wb.length ≤ 140737488351232) :
    Calls Tryd.prog 33 #[setV sa A wa.length ca, setV sb B wb.length cb] w fun e w' => e = .returned (.bool (eqB sa wa sb wb)) ∧ Below w.heap.size w w' := by
  unfold setV
  cases hva : Kb.validB sa wa with
  | false =>
    have hR : Hid (eqB sa wa sb wb = false) := Lib.hid (eqB_va hva)
    have hVA := Lib.hid hva
    clear hva
    go_enter Tryd.func33, Tryd.ntmps33
    go_wp2_with fail
    have i1 := TwoB.new_ w sa A wa.length ca sb B wb.length cb 24 24
    refine (rvalid_any sa A ca wa _ ((ha.below i1.bel).more i1.bel.size) hla).mono ?_
    rintro e w1 ⟨rfl, hb1⟩
    have i2 := i1.below hb1
    rw [hVA.out]
    go_wp2_with fail
    go_ret
    exact ⟨ret_bool hR.out.symm, i2.bel⟩
  | true =>
    have hVA := Lib.hid hva
    cases hvb : Kb.validB sb wb with
    | false =>
      have hR : Hid (eqB sa wa sb wb = false) := Lib.hid (eqB_vb hvb)
      have hVB := Lib.hid hvb
      clear hva hvb
      go_enter Tryd.func33, Tryd.ntmps33
      go_wp2_with fail
      have i1 := TwoB.new_ w sa A wa.length ca sb B wb.length cb 24 24
      refine (rvalid_any sa A ca wa _ ((ha.below i1.bel).more i1.bel.size) hla).mono ?_
      rintro e w1 ⟨rfl, hb1⟩
      have i2 := i1.below hb1
      rw [hVA.out]
      clear i1 hb1
      have d10 := i2.t2.c0
      have d11 := i2.t2.c1
      go_wp2_with fail
      refine (rvalid_any sb B cb wb _ ((hb.below i2.bel).more i2.bel.size) hlb).mono ?_
      rintro e w2 ⟨rfl, hb2⟩
      have i3 := i2.below hb2
      rw [hVB.out]
      go_wp2_with fail
      go_ret
      exact ⟨ret_bool hR.out.symm, i3.bel⟩
    | true =>
      have hVB := Lib.hid hvb
      by_cases hs : sa = sb
      · have hR : Hid (eqB sa wa sb wb = (wa == wb)) := Lib.hid (eqB_eq hva hvb hs)
        have hs1 : (sa != sb) = false := by simp [hs]
        have hlen : Hid (wa.length = wb.length) := Lib.hid (by rw [len_of_valid ha.lt hva, len_of_valid hb.lt hvb, hs])
        have hS := Lib.hid hs
        clear hva hvb hs
        go_enter Tryd.func33, Tryd.ntmps33
        go_wp2_with fail
        have i1 := TwoB.new_ w sa A wa.length ca sb B wb.length cb 24 24
        refine (rvalid_any sa A ca wa _ ((ha.below i1.bel).more i1.bel.size) hla).mono ?_
        rintro e w1 ⟨rfl, hb1⟩
        have i2 := i1.below hb1
        rw [hVA.out]
        clear i1 hb1
        have d10 := i2.t2.c0
        have d11 := i2.t2.c1
        go_wp2_with fail
        refine (rvalid_any sb B cb wb _ ((hb.below i2.bel).more i2.bel.size) hlb).mono ?_
        rintro e w2 ⟨rfl, hb2⟩
        have i3 := i2.below hb2
        rw [hVB.out]
        clear i2 hb2 d10 d11
        have c10 := i3.t1.c0
        have c11 := i3.t1.c1
        have d10 := i3.t2.c0
        have d11 := i3.t2.c1
        go_wp2_with fail
        go_loopw [5] (fun kv wr => ∃ k q : Nat, k ≤ wa.length ∧ kv = .int .i64 k ∧ wr = w2.drewN q ∧ Hid (∀ j, j < k → wa.getD j 0 = wb.getD j 0)) (fun kv _ => wa.length - (intOf kv).toNat)
        case atStart => exact ⟨0, 0, Nat.zero_le _, rfl, rfl, Lib.hid (fun j h => by omega)⟩
        case round =>
          obtain ⟨k, q, hk, rfl, rfl, hno⟩ := hrel
          by_cases hlt : k < wa.length
          · obtain ⟨b, off, x, rfl, hbb, hc, hx⟩ := (ha.below i3.bel).at_ hlt
            obtain ⟨b2, off2, y, rfl, hbb2, hc2, hy⟩ := (hb.below i3.bel).at_ (k := k) (by rw [← hlen.out]; exact hlt)
            have hlt2 : (k : Int) < (wb.length : Int) := by have := hlen.out; omega
            by_cases hxy : x = y
            · have hxy1 : ((x : Int) != (y : Int)) = false := by simp; omega
              have hXY := Lib.hid hxy
              clear hxy
              go_wp2_with fail
              go_quiet (fail)
              go_wp2_with fail
              go_roundw
              case rel => exact ⟨k + 1, _, by omega, by go_num, rfl, Lib.hid (fun j h => by
                by_cases e : j = k
                · rw [e, ← hx.out.1, ← hy.out.1]; exact hXY.out
                · exact hno.out j (by omega))⟩
              case measure => simp [intOf]; omega
            · have hxy1 : ((x : Int) != (y : Int)) = true := by simp; omega
              have hXY := Lib.hid hxy
              clear hxy
              go_wp2_with fail
              go_quiet (fail)
              go_wp2_with fail
              go_ret
              exact ⟨ret_bool (hR.out.trans (list_ne_of k (by rw [← hx.out.1, ← hy.out.1]; exact hXY.out))).symm, bDrew (bDrew i3.bel _) _⟩
          · go_wp2_with fail
            go_ret
            exact ⟨ret_bool (hR.out.trans (list_eq_of hlen.out (fun j h => hno.out j (by omega)))).symm, bDrew i3.bel _⟩
      · have hR : Hid (eqB sa wa sb wb = false) := Lib.hid (eqB_s hs)
        have hs1 : (sa != sb) = true := by simp [hs]
        have hS := Lib.hid hs
        clear hva hvb hs
        go_enter Tryd.func33, Tryd.ntmps33
        go_wp2_with fail
        have i1 := TwoB.new_ w sa A wa.length ca sb B wb.length cb 24 24
        refine (rvalid_any sa A ca wa _ ((ha.below i1.bel).more i1.bel.size) hla).mono ?_
        rintro e w1 ⟨rfl, hb1⟩
        have i2 := i1.below hb1
        rw [hVA.out]
        clear i1 hb1
        have d10 := i2.t2.c0
        have d11 := i2.t2.c1
        go_wp2_with fail
        refine (rvalid_any sb B cb wb _ ((hb.below i2.bel).more i2.bel.size) hlb).mono ?_
        rintro e w2 ⟨rfl, hb2⟩
        have i3 := i2.below hb2
        rw [hVB.out]
        clear i2 hb2 d10 d11
        have c10 := i3.t1.c0
        have d10 := i3.t2.c0
        go_wp2_with fail
        go_ret
        exact ⟨ret_bool hR.out.symm, i3.bel⟩
end Go.Proofs.YtmdekgbnpbanaaaDoor
