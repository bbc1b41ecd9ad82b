/- Walks: isSize, wordsFor, power, Bit. -/
import Derived.Test.YtckenemkfegopaaDoorChecked
import Derived.Test.YtckenemkfegopaaDoorOwn
import Derived.Test.YtckenemkfegopaaDoorMath
import Derived.Outline
import Derived.Deep.QuietTactic
import Derived.BigQuiet
import Derived.Deep.DeepFit
namespace Go.Proofs.YtckenemkfegopaaDoor
open Go.RowKit
set_option linter.unusedVariables false

set_option maxHeartbeats 400000 in
theorem isSize_any (n : Int) (w : World) :
    Calls Tryd.prog 126 #[.int .i64 n] w fun e w' => e = .returned (.bool (decide (0 ≤ n) && decide (n ≤ 4096))) ∧ w = w' := by
  by_cases h : 0 ≤ n
  · go_enter Tryd.func126, Tryd.ntmps126
    go_wp2
    go_ret
    exact ⟨by simp [h], rfl⟩
  · go_enter Tryd.func126, Tryd.ntmps126
    go_wp2
    go_ret
    exact ⟨ret_bool (by rw [decide_eq_false (by omega : ¬ 0 ≤ n)]; rfl), rfl⟩

set_option maxHeartbeats 400000 in
theorem wordsFor_any (n : Nat) (h : n ≤ 4096) (w : World) :
    Calls Tryd.prog 127 #[.int .i64 n] w fun e w' => e = .returned (.int .i64 ((Kb.nw n : Nat) : Int)) ∧ w = w' := by
  go_enter Tryd.func127, Tryd.ntmps127
  go_wp2
  go_ret
  exact ⟨ret_int (by unfold Kb.nw; omega), rfl⟩

theorem pow_wrap (k : Nat) (h : k + 1 < 64) : IntKind.u64.wrap (((2 ^ k : Nat) : Int) * 2) = ((2 ^ (k + 1) : Nat) : Int) := by
  have h1 : (2 : Nat) ^ (k + 1) < 2 ^ 64 := Nat.pow_lt_pow_right (by omega) h
  rw [IntKind.wrap_u64, Nat.pow_succ] at *
  omega

set_option maxHeartbeats 400000 in
theorem power_any (i : Nat) (hi : i < 64) (w : World) :
    Calls Tryd.prog 135 #[.int .i64 i] w fun e w' => e = .returned (.int .u64 ((2 ^ i : Nat) : Int)) ∧ w = w' := by
  go_enter Tryd.func135, Tryd.ntmps135
  go_wp2
  go_loop [3, 4] (fun p q => ∃ k v : Nat, k ≤ i ∧ q = .int .i64 k ∧ p = .int .u64 v ∧ Hid (v = 2 ^ k)) (fun _ q => i - (intOf q).toNat)
  case atStart => exact ⟨0, 1, Nat.zero_le _, rfl, rfl, Lib.hid rfl⟩
  case round =>
    obtain ⟨k, v, hk, rfl, rfl, hv⟩ := hrel
    by_cases hlt : k < i
    · go_wp2
      go_round
      case rel => exact ⟨k + 1, 2 ^ (k + 1), by omega, by go_num, by rw [hv.out, pow_wrap k (by omega)], Lib.hid rfl⟩
      case measure => simp [intOf]; omega
    · go_wp2
      go_ret
      exact ⟨ret_int (by rw [hv.out, show k = i by omega]; simp), rfl⟩

theorem power_int (z : Int) (h0 : 0 ≤ z) (h1 : z < 64) (w : World) :
    Calls Tryd.prog 135 #[.int .i64 z] w fun e w' => e = .returned (.int .u64 ((2 ^ z.toNat : Nat) : Int)) ∧ w = w' := by
  obtain ⟨i, rfl⟩ := Int.eq_ofNat_of_zero_le h0
  exact power_any i (by omega) w

theorem quiet_of_eq {P : Program} {f : FuncId} {args : Array Value} {w : World} {n : Nat} {v : Value}
    (h : Calls P f args (w.drewN n) fun e w' => e = .returned v ∧ w.drewN n = w') : Calls P f args (w.drewN n) fun e w'' => e = .returned v ∧ ∃ m, w'' = w.drewN m :=
  h.mono fun _ _ ⟨he, hm⟩ => ⟨he, n, hm.symm⟩

theorem power_p (z : Int) (h0 : 0 ≤ z) (h1 : z < 64) (p : Nat) (hp : Hid (p = 2 ^ z.toNat)) (w : World) :
    Calls Tryd.prog 135 #[.int .i64 z] w fun e w' => e = .returned (.int .u64 (p : Int)) ∧ w = w' := by
  rw [hp.out]; exact power_int z h0 h1 w

theorem bit_val (x i : Nat) (ws : List Nat) (p : Nat) (hx : Hid (x = ws.getD (i / 64) 0 ∧ x < 2 ^ 64)) (hp : Hid (p = 2 ^ ((i : Int) % 64).toNat)) : ((x : Int) / (p : Int) % 2 == 1) = Kb.bitAt ws i := by
  have e : ((i : Int) % 64).toNat = i % 64 := by omega
  unfold Kb.bitAt
  rw [← hx.out.1, hp.out, e, ← Kb.testBit_shift, Bool.eq_iff_iff]
  simp only [beq_iff_eq]
  generalize 2 ^ (i % 64) = q
  omega

set_option maxHeartbeats 400000 in
theorem bit_any (A : Option Addr) (c i : Nat) (ws : List Nat) (w : World) (B : Nat) (h : Words w B A ws) (hi : i ≤ 1000000000) (hl : ws.length ≤ 1000000000) :
    Calls Tryd.prog 100 #[.slice A ws.length c, .int .i64 i] w fun e w' => e = .returned (.bool (Kb.bitAt ws i)) ∧ ∃ m, w' = w.drewN m := by
  have e1 : IntKind.i64.wrap ((i : Int) / 64) = (i : Int) / 64 := IntWalk.i64_in _ (by omega)
  have e2 : ((i : Int)).tmod 64 = (i : Int) % 64 := Int.tmod_eq_emod_of_nonneg (by omega)
  have e3 : ((i : Int) / 64).toNat = i / 64 := by omega
  by_cases hlt : i / 64 < ws.length
  · obtain ⟨b, off, x, rfl, hb, hc, hx⟩ := h.at_ hlt
    obtain ⟨p, hp⟩ : ∃ p : Nat, Hid (p = 2 ^ ((i : Int) % 64).toNat) := ⟨_, Lib.hid rfl⟩
    have hd : ((i : Int) / 64 < (ws.length : Int)) := by omega
    have hd2 : (0 : Int) ≤ (i : Int) / 64 := by omega
    have hp0 : 0 < p := by rw [hp.out]; exact Nat.two_pow_pos _
    have hp1 : ((p : Int) == 0) = false := by simp; omega
    have e4 : ((x : Int)).tdiv (p : Int) = (x : Int) / (p : Int) := Int.tdiv_eq_ediv_of_nonneg (by omega)
    have e5 : IntKind.u64.wrap ((x : Int) / (p : Int)) = (x : Int) / (p : Int) := by
      have h1 := hx.out.2
      have h2 : x / p ≤ x := Nat.div_le_self _ _
      rw [← Int.natCast_ediv]; exact wrap_nat (Nat.lt_of_le_of_lt h2 h1)
    have e6 : ((x : Int) / (p : Int)).tmod 2 = (x : Int) / (p : Int) % 2 := Int.tmod_eq_emod_of_nonneg (by have := Int.natCast_nonneg (x / p); rwa [Int.natCast_ediv] at this)
    have hv := Lib.hid (bit_val x i ws p hx hp)
    go_enter Tryd.func100, Tryd.ntmps100
    go_wp2_with fail
    go_quiet ((go_at_call 135; exact quiet_of_eq (power_p _ (by omega) (by omega) p hp _)))
    go_wp2
    go_ret
    exact ⟨ret_bool hv.out, _, rfl⟩
  · have hd : decide ((i : Int) / 64 < (ws.length : Int)) = false := by simp; omega
    have hv : Hid (Kb.bitAt ws i = false) := by
      refine Lib.hid ?_
      unfold Kb.bitAt
      rw [List.getD_eq_getElem?_getD, List.getElem?_eq_none (by omega)]; simp
    go_enter Tryd.func100, Tryd.ntmps100
    go_wp2_with fail
    go_quiet (fail)
    go_wp2
    go_ret
    exact ⟨ret_bool hv.out.symm, _, rfl⟩
end Go.Proofs.YtckenemkfegopaaDoor
