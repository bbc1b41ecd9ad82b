/- Walks: trim, Valid, Sign, signed. -/
import Derived.Test.YtmhfdmidaheoeaaDoorChecked
import Derived.Test.YtmhfdmidaheoeaaDoorOwn
import Derived.Test.YtmhfdmidaheoeaaDoorMath2
import Derived.Outline
import Derived.Deep.QuietTactic
import Derived.BigQuiet
import Derived.Deep.DeepFit
namespace Go.Proofs.YtmhfdmidaheoeaaDoor
open Go.RowKit
set_option linter.unusedVariables false

theorem quiet_of_eq {P : Program} {f : FuncId} {args : Array Value} {w : World} {n : Nat} {v : Value}
    (h : Calls P f args (w.drewN n) fun e w' => e = .returned v ∧ w.drewN n = w') : Calls P f args (w.drewN n) fun e w'' => e = .returned v ∧ ∃ m, w'' = w.drewN m :=
  h.mono fun _ _ ⟨he, hm⟩ => ⟨he, n, hm.symm⟩

theorem quiet_more {P : Program} {f : FuncId} {args : Array Value} {w : World} {a n : Nat} {v : Value}
    (h : Calls P f args (w.drewN (a + n)) fun e w' => e = .returned v ∧ w.drewN (a + n) = w') : Calls P f args (w.drewN (a + n)) fun e w'' => e = .returned v ∧ ∃ m, w'' = w.drewN (a + m) :=
  h.mono fun _ _ ⟨he, hm⟩ => ⟨he, n, hm.symm⟩
theorem quiet_drew {P : Program} {f : FuncId} {args : Array Value} {w : World} {n : Nat} {v : Value}
    (h : Calls P f args (w.drewN n) fun e w' => e = .returned v ∧ ∃ q, w' = (w.drewN n).drewN q) : Calls P f args (w.drewN n) fun e w'' => e = .returned v ∧ ∃ m, w'' = w.drewN m :=
  h.mono fun _ _ ⟨he, q, hm⟩ => ⟨he, n + q, by rw [hm, World.drewN_drewN]⟩
theorem quiet_drew_more {P : Program} {f : FuncId} {args : Array Value} {w : World} {a n : Nat} {v : Value}
    (h : Calls P f args (w.drewN (a + n)) fun e w' => e = .returned v ∧ ∃ q, w' = (w.drewN (a + n)).drewN q) : Calls P f args (w.drewN (a + n)) fun e w'' => e = .returned v ∧ ∃ m, w'' = w.drewN (a + m) :=
  h.mono fun _ _ ⟨he, q, hm⟩ => ⟨he, n + q, by rw [hm, World.drewN_drewN, Nat.add_assoc]⟩

theorem ret_slice {A : Option Addr} {c n m : Nat} (h : n = m) : Ending.returned (.slice A n c) = .returned (.slice A m c) := by rw [h]

set_option maxHeartbeats 400000 in
theorem trim_any (A : Option Addr) (c : Nat) (ws : List Nat) (w : World) (B : Nat) (h : Sl w B A c ws) (hl : ws.length ≤ 1000000000) :
    Calls Tryd.prog 25 #[.slice A ws.length c] w fun e w' => e = .returned (.slice A (Kn.dig (Kn.val ws)).length c) ∧ w = w' := by
  have hcap := h.cap
  go_enter Tryd.func25, Tryd.ntmps25
  go_wp2
  go_loop [0] (fun v => ∃ k : Nat, k ≤ ws.length ∧ v = .slice A k c ∧ Hid (Kn.val (ws.take k) = Kn.val ws)) (fun v => match v with | .slice _ n _ => n | _ => 0)
  case atStart => exact ⟨ws.length, Nat.le_refl _, rfl, Lib.hid (by rw [List.take_length])⟩
  case round =>
    obtain ⟨k, hk, rfl, HV⟩ := hrel
    by_cases hk0 : k = 0
    · subst hk0
      have hd : Hid (0 = (Kn.dig (Kn.val ws)).length) := Lib.hid (Kn.val_take_of_dig ws h.wd (Nat.zero_le _) HV.out (Or.inl rfl)).2
      go_wp2
      go_ret
      exact ⟨ret_slice hd.out, rfl⟩
    · obtain ⟨b, off, x, rfl, hb, hc, hx, hx2⟩ := h.word (k := k - 1) (by omega)
      have e1 : ((k : Int) - 1).toNat = k - 1 := by omega
      have e2 : (0 : Int) ≤ (k : Int) - 1 := by omega
      have hk1 : 0 < k := by omega
      clear hk0
      by_cases hx0 : x = 0
      · subst hx0
        have hv : Hid (Kn.val (ws.take (k - 1)) = Kn.val ws) := Lib.hid (by
          have h1 := Kn.val_take_step ws (k - 1)
          rw [← hx.out, Nat.mul_zero, Nat.sub_add_cancel hk1, HV.out] at h1
          omega)
        go_wp2
        go_round
        case rel => exact ⟨k - 1, by omega, by first | rfl | (congr 1; omega) | (rw [e1]), hv⟩
        case measure => simp; omega
      · have hx1 : ((x : Int) == 0) = false := by simp; omega
        have hd : Hid (k = (Kn.dig (Kn.val ws)).length) := Lib.hid (Kn.val_take_of_dig ws h.wd hk HV.out (Or.inr (by rw [← hx.out]; exact hx0))).2
        clear hx0
        go_wp2
        go_ret
        exact ⟨ret_slice hd.out, rfl⟩
end Go.Proofs.YtmhfdmidaheoeaaDoor
