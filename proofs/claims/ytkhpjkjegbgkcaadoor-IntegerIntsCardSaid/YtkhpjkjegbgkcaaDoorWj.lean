/- Walks: Small of both. -/
import Derived.Test.YtkhpjkjegbgkcaaDoorWi
namespace Go.Proofs.YtkhpjkjegbgkcaaDoor
open Go.RowKit
set_option linter.unusedVariables false

/-- does an integer fit into 64 bits? -/
def fits (z : Int) : Prop := -9223372036854775808 ≤ z ∧ z ≤ 9223372036854775807
def smI (z : Int) : Int := if -9223372036854775808 ≤ z ∧ z ≤ 9223372036854775807 then z else 0
def smB (z : Int) : Bool := decide (-9223372036854775808 ≤ z ∧ z ≤ 9223372036854775807)
theorem sm_yes {z : Int} (h : -9223372036854775808 ≤ z ∧ z ≤ 9223372036854775807) : smI z = z ∧ smB z = true := ⟨if_pos h, decide_eq_true h⟩
theorem sm_no {z : Int} (h : ¬ (-9223372036854775808 ≤ z ∧ z ≤ 9223372036854775807)) : smI z = 0 ∧ smB z = false := ⟨if_neg h, decide_eq_false h⟩
theorem big_val {l : List Nat} (h : 2 < (Kn.dig (Kn.val l)).length) : 18446744073709551616 ≤ Kn.val l := by
  have hp : 0 < Kn.val l := Kn.dig_len_pos.1 (by omega)
  have h1 := Kn.dig_ge hp
  have h2 := Kn.pw_mono (show 2 ≤ (Kn.dig (Kn.val l)).length - 1 by omega)
  have h3 : Kn.pw 2 = 18446744073709551616 := by decide
  omega
theorem small_val {n : Nat} (h : (Kn.dig n).length ≤ 2) : n < 18446744073709551616 := by
  have h1 := @Kn.dig_lt n
  have h2 := Kn.pw_mono h
  have h3 : Kn.pw 2 = 18446744073709551616 := by decide
  omega

set_option maxRecDepth 100000 in
set_option maxHeartbeats 1000000 in
theorem bsmall_any (neg : Bool) (A : Option Addr) (c : Nat) (ws : List Nat) (w : World) (h : Sl w w.heap.size A c ws) (hl : ws.length ≤ 1000000) (S : Int) (F : Bool) (hS : Hid (S = smI (Kn.iv neg ws))) (hF : Hid (F = smB (Kn.iv neg ws))) :
    Calls Tryd.prog 29 #[intV neg A ws.length c] w fun e w' => e = .returned (.tuple #[.int .i64 S, .bool F]) ∧ Below w.heap.size w w' := by
  obtain ⟨m, hm⟩ : ∃ m, Hid (m = (Kn.dig (Kn.val ws)).length) := ⟨_, Lib.hid rfl⟩
  obtain ⟨M, hM⟩ : ∃ M, Hid (M = Kn.val ws) := ⟨_, Lib.hid rfl⟩
  have HT : Hid (∀ W B, Sl W B A c ws → Calls Tryd.prog 57 #[.slice A ws.length c] W fun e w' => e = .returned (.slice A m c) ∧ W = w') := Lib.hid (fun W B h => by rw [hm.out]; exact trim_any A c ws W B h (by omega))
  have HJ : Hid (∀ W B, m ≤ 2 → Sl W B A c ws → Calls Tryd.prog 63 #[.slice A m c] W fun e w' => e = .returned (.int .u64 (M : Int)) ∧ W = w') := Lib.hid (fun W B h2 h => by
    have := join_any A c _ W B h.trim (by rw [← hm.out]; exact h2)
    rwa [Kn.val_dig, ← hm.out, ← hM.out] at this)
  have hX := h.alloc (Nat.le_refl _) (.cells #[.bool neg, .slice A ws.length c] 24)
  have hB := al1 w (.cells #[.bool neg, .slice A ws.length c] 24)
  unfold intV
  rcases Nat.lt_or_ge 2 m with hm2 | hm2
  · have hbig : Hid (¬ (-9223372036854775808 ≤ Kn.iv neg ws ∧ Kn.iv neg ws ≤ 9223372036854775807)) := Lib.hid (by
      have := big_val (l := ws) (by rw [← hm.out]; exact hm2)
      unfold Kn.iv; cases neg <;> simp <;> omega)
    have e1 : Hid (S = 0) := Lib.hid (by rw [hS.out]; exact (sm_no hbig.out).1)
    have e2 : Hid (F = false) := Lib.hid (by rw [hF.out]; exact (sm_no hbig.out).2)
    go_enter Tryd.func29, Tryd.ntmps29
    go_wp2_with (go_at_call 57; refine (HT.out _ _ hX).mono ?_; rintro e w' ⟨rfl, rfl⟩)
    go_ret2
    exact ⟨by rw [e1.out, e2.out]; rfl, hB⟩
  · have hMl : Hid (M < 18446744073709551616) := Lib.hid (by rw [hM.out]; exact small_val (by rw [← hm.out]; exact hm2))
    cases neg
    · have hz : Hid (Kn.iv false ws = (M : Int)) := Lib.hid (by unfold Kn.iv; rw [hM.out]; simp)
      by_cases hc : (M : Int) < 9223372036854775808
      · have e1 : Hid (S = (M : Int)) := Lib.hid (by rw [hS.out, hz.out]; exact (sm_yes (by omega)).1)
        have e2 : Hid (F = true) := Lib.hid (by rw [hF.out, hz.out]; exact (sm_yes (by omega)).2)
        have hw : ∀ W, (convert 57 3 (.int .u64 (M : Int))).run Tryd.prog W = .ok (.int .i64 S) W := fun W => by
          have h := run_convert_int (P := Tryd.prog) W 57 3 .u64 (M : Int) (by kernel_rfl) (by kernel_rfl)
          rw [show Tryd.prog.intKind 3 = .i64 by kernel_rfl] at h
          have e : IntKind.i64.wrap (M : Int) = S := by rw [e1.out, IntKind.wrap_i64]; omega
          rw [e] at h
          exact h
        have hd : binOp .lss 57 (.int .u64 (M : Int)) (.int .u64 9223372036854775808) = (pure (.bool true) : Sem Value) := by rw [binOp_lss, decide_eq_true hc]
        clear hc
        go_enter Tryd.func29, Tryd.ntmps29
        go_wp2_with (first
          | (go_at_call 57; refine (HT.out _ _ hX).mono ?_; rintro e w' ⟨rfl, rfl⟩)
          | (go_at_call 63; refine (HJ.out _ _ hm2 hX).mono ?_; rintro e w' ⟨rfl, rfl⟩))
        go_ret2
        refine ⟨?_, hB⟩
        rw [e2.out]
        first | rfl | (show Ending.returned (.tuple #[.int .i64 _, .bool true]) = _; rw [e1.out]; congr 4; simp; omega) | simp [e1.out]
      · have e1 : Hid (S = 0) := Lib.hid (by rw [hS.out, hz.out]; exact (sm_no (by omega)).1)
        have e2 : Hid (F = false) := Lib.hid (by rw [hF.out, hz.out]; exact (sm_no (by omega)).2)
        have hd : binOp .lss 57 (.int .u64 (M : Int)) (.int .u64 9223372036854775808) = (pure (.bool false) : Sem Value) := by rw [binOp_lss, decide_eq_false hc]
        clear hc
        go_enter Tryd.func29, Tryd.ntmps29
        go_wp2_with (first
          | (go_at_call 57; refine (HT.out _ _ hX).mono ?_; rintro e w' ⟨rfl, rfl⟩)
          | (go_at_call 63; refine (HJ.out _ _ hm2 hX).mono ?_; rintro e w' ⟨rfl, rfl⟩))
        go_ret2
        exact ⟨by rw [e1.out, e2.out]; rfl, hB⟩
    · have hz : Hid (Kn.iv true ws = -(M : Int)) := Lib.hid (by unfold Kn.iv; rw [hM.out]; simp)
      by_cases hc : (M : Int) ≤ 9223372036854775808
      · have e1 : Hid (S = -(M : Int)) := Lib.hid (by rw [hS.out, hz.out]; exact (sm_yes (by omega)).1)
        have e2 : Hid (F = true) := Lib.hid (by rw [hF.out, hz.out]; exact (sm_yes (by omega)).2)
        have hw : IntKind.i64.wrap (IntKind.u64.wrap (-(M : Int))) = S := by rw [e1.out, IntKind.wrap_u64, IntKind.wrap_i64]; omega
        have hw2 : wrap64 (IntKind.u64.wrap (-(M : Int))) = S := by unfold wrap64; rw [e1.out, IntKind.wrap_u64]; omega
        have hd : binOp .leq 57 (.int .u64 (M : Int)) (.int .u64 9223372036854775808) = (pure (.bool true) : Sem Value) := by rw [binOp_leq, decide_eq_true hc]
        clear hc
        go_enter Tryd.func29, Tryd.ntmps29
        go_wp2_with (first
          | (go_at_call 57; refine (HT.out _ _ hX).mono ?_; rintro e w' ⟨rfl, rfl⟩)
          | (go_at_call 63; refine (HJ.out _ _ hm2 hX).mono ?_; rintro e w' ⟨rfl, rfl⟩))
        go_ret2
        refine ⟨?_, hB⟩
        rw [e2.out]
        first | rfl | (show Ending.returned (.tuple #[.int .i64 _, .bool true]) = _; rw [e1.out]; congr 4; simp; omega) | simp [e1.out]
      · have e1 : Hid (S = 0) := Lib.hid (by rw [hS.out, hz.out]; exact (sm_no (by omega)).1)
        have e2 : Hid (F = false) := Lib.hid (by rw [hF.out, hz.out]; exact (sm_no (by omega)).2)
        have hd : binOp .leq 57 (.int .u64 (M : Int)) (.int .u64 9223372036854775808) = (pure (.bool false) : Sem Value) := by rw [binOp_leq, decide_eq_false hc]
        clear hc
        go_enter Tryd.func29, Tryd.ntmps29
        go_wp2_with (first
          | (go_at_call 57; refine (HT.out _ _ hX).mono ?_; rintro e w' ⟨rfl, rfl⟩)
          | (go_at_call 63; refine (HJ.out _ _ hm2 hX).mono ?_; rintro e w' ⟨rfl, rfl⟩))
        go_ret2
        exact ⟨by rw [e1.out, e2.out]; rfl, hB⟩
end Go.Proofs.YtkhpjkjegbgkcaaDoor
