/- Walks: small functions of package syntax on expressions. -/
import Derived.Test.YtmemkcaikajnnaaGreatDoorCt
import Derived.Test.YtmemkcaikajnnaaGreatDoorIs
namespace Go.Proofs.YtmemkcaikajnnaaGreatDoor
open Go.RowKit
set_option linter.unusedVariables false

theorem qsame {f : FuncId} {args : Array Value} {w : World} {n : Nat} {v : Value} (h : Calls Tryz.prog f args (w.drewN n) fun e w' => e = .returned v ∧ w.drewN n = w') : Calls Tryz.prog f args (w.drewN n) fun e w'' => e = .returned v ∧ ∃ m, w'' = w.drewN m :=
  h.mono fun _ _ ⟨he, hm⟩ => ⟨he, n, hm.symm⟩

def withB (n lo hi : Int) : Bool := decide (lo ≤ n) && decide (n ≤ hi)
theorem within_any (n lo hi : Int) (w : World) : Calls Tryz.prog 125 #[.int .i64 n, .int .i64 lo, .int .i64 hi] w fun e w' => e = .returned (.bool (withB n lo hi)) ∧ w = w' := by
  by_cases h : lo ≤ n
  · have hr : Hid (decide (n ≤ hi) = withB n lo hi) := Lib.hid (by unfold withB; rw [decide_eq_true h, Bool.true_and])
    go_enter Tryz.func125, Tryz.ntmps125
    go_wp2_with fail
    go_ret
    exact ⟨ret_bool hr.out, rfl⟩
  · have hr : Hid (false = withB n lo hi) := Lib.hid (by unfold withB; rw [decide_eq_false h, Bool.false_and])
    go_enter Tryz.func125, Tryz.ntmps125
    go_wp2_with fail
    go_ret
    exact ⟨ret_bool hr.out, rfl⟩
theorem occurs_any (n : Int) (w : World) : Calls Tryz.prog 133 #[.int .i64 n, .int .i64 24] w fun e w' => e = .returned (.bool (E.occ n)) ∧ w = w' := by
  by_cases h : 0 ≤ n
  · have hr : Hid (decide (n < 24) = E.occ n) := Lib.hid (by unfold E.occ; rw [decide_eq_true h, Bool.true_and])
    go_enter Tryz.func133, Tryz.ntmps133
    go_wp2_with fail
    go_ret
    exact ⟨ret_bool hr.out, rfl⟩
  · have hr : Hid (false = E.occ n) := Lib.hid (by unfold E.occ; rw [decide_eq_false h, Bool.false_and])
    go_enter Tryz.func133, Tryz.ntmps133
    go_wp2_with fail
    go_ret
    exact ⟨ret_bool hr.out, rfl⟩
theorem isplace_any (e : E) (w : World) : Calls Tryz.prog 132 #[e.val] w fun r w' => r = .returned (.bool e.place) ∧ Below w.heap.size w w' := by
  have hr : Hid (withB e.op 3 5 = e.place) := Lib.hid rfl
  go_enter Tryz.func132, Tryz.ntmps132
  go_wp2_with fail
  refine (within_any _ _ _ _).mono ?_
  rintro r w1 ⟨rfl, rfl⟩
  go_wp2_with fail
  go_ret
  exact ⟨ret_bool hr.out, al1 _ _⟩
theorem set_yes (f : Int) (w : World) : Calls Tryz.prog 139 #[.int .i64 f, .bool true] w fun e w' => e = .returned (.int .i64 f) ∧ w = w' := by
  go_enter Tryz.func139, Tryz.ntmps139
  go_wp2_with fail
  go_ret
  exact ⟨rfl, rfl⟩
theorem set_no (f : Int) (w : World) : Calls Tryz.prog 139 #[.int .i64 f, .bool false] w fun e w' => e = .returned (.int .i64 0) ∧ w = w' := by
  go_enter Tryz.func139, Tryz.ntmps139
  go_wp2_with fail
  go_ret
  exact ⟨rfl, rfl⟩
/-- a number where something holds, else nothing -/
def ifB (b : Bool) (f : Int) : Int := if b then f else 0
theorem set_any (b : Bool) (f : Int) (w : World) : Calls Tryz.prog 139 #[.int .i64 f, .bool b] w fun e w' => e = .returned (.int .i64 (ifB b f)) ∧ w = w' := by
  cases b with
  | true => exact set_yes f w
  | false => exact set_no f w
theorem when_any (b : Bool) (f : Int) (w : World) : Calls Tryz.prog 126 #[.bool b, .int .i64 f] w fun e w' => e = .returned (.int .i64 (ifB b f)) ∧ w = w' := by
  cases b with
  | true =>
    go_enter Tryz.func126, Tryz.ntmps126
    go_wp2_with fail
    go_ret
    exact ⟨rfl, rfl⟩
  | false =>
    go_enter Tryz.func126, Tryz.ntmps126
    go_wp2_with fail
    go_ret
    exact ⟨rfl, rfl⟩
theorem sisname_any (s : ByteArray) (hs : s.size ≤ 1000000) (w : World) (hT : SpT w) : Calls Tryz.prog 127 #[.string s] w fun e w' => e = .returned (.bool (Kx.nameB (bs s))) ∧ Below w.heap.size w w' := by
  go_enter Tryz.func127, Tryz.ntmps127
  go_wp2_with fail
  refine (isname_any s hs _ hT).mono ?_
  rintro e w1 ⟨rfl, b⟩
  go_wp2_with fail
  go_ret
  exact ⟨rfl, b⟩
theorem flds_bits (e : E) : bits BinOp.or IntKind.i64 (bits BinOp.or IntKind.i64 (ifB (e.n != 0) 1) (ifB (!e.nm.toList.isEmpty) 2)) (ifB (decide (0 < e.ks.length)) 4) = ((E.flds e : Nat) : Int) := by
  have h1 : (e.n ≠ 0) ↔ (e.n != 0) = true := by simp
  have h2 : (e.nm.size ≠ 0) ↔ (!e.nm.toList.isEmpty) = true := by
    rw [bs_toList, ← bs_length]
    cases bs e.nm <;> simp
  have h3 : (e.ks.length ≠ 0) ↔ decide (0 < e.ks.length) = true := by rw [decide_eq_true_eq]; omega
  unfold E.flds
  simp only [h1, h2, h3]
  generalize (e.n != 0) = a
  generalize (!e.nm.toList.isEmpty) = b
  generalize decide (0 < e.ks.length) = c
  cases a <;> cases b <;> cases c <;> decide
set_option maxRecDepth 100000 in
set_option maxHeartbeats 1000000 in
theorem fields_any (e : E) (w : World) : Calls Tryz.prog 134 #[e.val] w fun r w' => r = .returned (.int .i64 (E.flds e : Nat)) ∧ Below w.heap.size w w' := by
  have HR := Lib.hid (flds_bits e)
  go_enter Tryz.func134, Tryz.ntmps134
  go_wp2_with fail
  go_quiet ((go_at_call 139; exact qsame (set_any _ _ _)))
  go_wp2_with fail
  go_ret
  exact ⟨ret_int HR.out, bDrew (al1 _ _) _⟩
end Go.Proofs.YtmemkcaikajnnaaGreatDoor
