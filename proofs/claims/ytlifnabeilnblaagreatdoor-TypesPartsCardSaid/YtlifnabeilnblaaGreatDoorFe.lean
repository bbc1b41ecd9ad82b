/- Walks: small functions of package syntax on types. -/
import Derived.Test.YtlifnabeilnblaaGreatDoorCt
import Derived.Test.YtlifnabeilnblaaGreatDoorIs
namespace Go.Proofs.YtlifnabeilnblaaGreatDoor
open Go.RowKit
set_option linter.unusedVariables false

theorem qsame {f : FuncId} {args : Array Value} {w : World} {n : Nat} {v : Value} (h : Calls Tryz.prog f args (w.drewN n) fun e w' => e = .returned v ∧ w.drewN n = w') : Calls Tryz.prog f args (w.drewN n) fun e w'' => e = .returned v ∧ ∃ m, w'' = w.drewN m :=
  h.mono fun _ _ ⟨he, hm⟩ => ⟨he, n, hm.symm⟩

def withB (n lo hi : Int) : Bool := decide (lo ≤ n) && decide (n ≤ hi)
theorem within_any (n lo hi : Int) (w : World) : Calls Tryz.prog 100 #[.int .i64 n, .int .i64 lo, .int .i64 hi] w fun e w' => e = .returned (.bool (withB n lo hi)) ∧ w = w' := by
  by_cases h : lo ≤ n
  · have hr : Hid (decide (n ≤ hi) = withB n lo hi) := Lib.hid (by unfold withB; rw [decide_eq_true h, Bool.true_and])
    go_enter Tryz.func100, Tryz.ntmps100
    go_wp2_with fail
    go_ret
    exact ⟨ret_bool hr.out, rfl⟩
  · have hr : Hid (false = withB n lo hi) := Lib.hid (by unfold withB; rw [decide_eq_false h, Bool.false_and])
    go_enter Tryz.func100, Tryz.ntmps100
    go_wp2_with fail
    go_ret
    exact ⟨ret_bool hr.out, rfl⟩
theorem interval_any (lo hi : Int) (w : World) : Calls Tryz.prog 103 #[.int .i64 lo, .int .i64 hi] w fun e w' => e = .returned (.bool (G.ival lo hi)) ∧ w = w' := by
  by_cases h : lo ≤ hi
  · cases h1 : withB lo (-1048576) 1048576 with
    | false =>
      have hr : Hid (false = G.ival lo hi) := Lib.hid (by unfold G.ival; rw [show (decide (-1048576 ≤ lo) && decide (lo ≤ 1048576)) = false from h1]; simp)
      have H1 := Lib.hid h1
      clear h1
      go_enter Tryz.func103, Tryz.ntmps103
      go_wp2_with fail
      refine (within_any _ _ _ _).mono ?_
      rintro r w1 ⟨rfl, rfl⟩
      rw [H1.out]
      go_wp2_with fail
      go_ret
      exact ⟨ret_bool hr.out, rfl⟩
    | true =>
      have hr : Hid (withB hi (-1048576) 1048576 = G.ival lo hi) := Lib.hid (by
        unfold G.ival
        rw [show (decide (-1048576 ≤ lo) && decide (lo ≤ 1048576)) = true from h1, decide_eq_true h]
        unfold withB; simp)
      have H1 := Lib.hid h1
      clear h1
      go_enter Tryz.func103, Tryz.ntmps103
      go_wp2_with fail
      refine (within_any _ _ _ _).mono ?_
      rintro r w1 ⟨rfl, rfl⟩
      rw [H1.out]
      go_wp2_with fail
      refine (within_any _ _ _ _).mono ?_
      rintro r w1 ⟨rfl, rfl⟩
      go_wp2_with fail
      go_ret
      exact ⟨ret_bool hr.out, rfl⟩
  · have hr : Hid (false = G.ival lo hi) := Lib.hid (by unfold G.ival; rw [decide_eq_false h]; simp)
    go_enter Tryz.func103, Tryz.ntmps103
    go_wp2_with fail
    go_ret
    exact ⟨ret_bool hr.out, rfl⟩
theorem occurs_any (n : Int) (w : World) : Calls Tryz.prog 109 #[.int .i64 n, .int .i64 5] w fun e w' => e = .returned (.bool (G.occ n)) ∧ w = w' := by
  by_cases h : 0 ≤ n
  · have hr : Hid (decide (n < 5) = G.occ n) := Lib.hid (by unfold G.occ; rw [decide_eq_true h, Bool.true_and])
    go_enter Tryz.func109, Tryz.ntmps109
    go_wp2_with fail
    go_ret
    exact ⟨ret_bool hr.out, rfl⟩
  · have hr : Hid (false = G.occ n) := Lib.hid (by unfold G.occ; rw [decide_eq_false h, Bool.false_and])
    go_enter Tryz.func109, Tryz.ntmps109
    go_wp2_with fail
    go_ret
    exact ⟨ret_bool hr.out, rfl⟩
/-- a number where something holds, else nothing -/
def ifB (b : Bool) (f : Int) : Int := if b then f else 0
theorem set_any (b : Bool) (f : Int) (w : World) : Calls Tryz.prog 123 #[.int .i64 f, .bool b] w fun e w' => e = .returned (.int .i64 (ifB b f)) ∧ w = w' := by
  cases b with
  | true =>
    go_enter Tryz.func123, Tryz.ntmps123
    go_wp2_with fail
    go_ret
    exact ⟨rfl, rfl⟩
  | false =>
    go_enter Tryz.func123, Tryz.ntmps123
    go_wp2_with fail
    go_ret
    exact ⟨rfl, rfl⟩
theorem when_any (b : Bool) (f : Int) (w : World) : Calls Tryz.prog 101 #[.bool b, .int .i64 f] w fun e w' => e = .returned (.int .i64 (ifB b f)) ∧ w = w' := by
  cases b with
  | true =>
    go_enter Tryz.func101, Tryz.ntmps101
    go_wp2_with fail
    go_ret
    exact ⟨rfl, rfl⟩
  | false =>
    go_enter Tryz.func101, Tryz.ntmps101
    go_wp2_with fail
    go_ret
    exact ⟨rfl, rfl⟩
theorem sisname_any (s : ByteArray) (hs : s.size ≤ 9223372036854775807) (w : World) (hT : SpT w) : Calls Tryz.prog 58 #[.string s] w fun e w' => e = .returned (.bool (Kx.nameB (bs s))) ∧ Below w.heap.size w w' := by
  go_enter Tryz.func58, Tryz.ntmps58
  go_wp2_with fail
  refine (isname_any s hs _ hT).mono ?_
  rintro e w1 ⟨rfl, b⟩
  go_wp2_with fail
  go_ret
  exact ⟨rfl, b⟩
def flI (a b c d f : Bool) : Int := bits BinOp.or IntKind.i64 (bits BinOp.or IntKind.i64 (bits BinOp.or IntKind.i64 (bits BinOp.or IntKind.i64 (ifB a 8) (ifB b 16)) (ifB c 2)) (ifB d 32)) (ifB f 64)
theorem flI_eq (a b c d f : Bool) : flI a b c d f = (((if a then 8 else 0) + (if b then 16 else 0) + (if c then 2 else 0) + (if d then 32 else 0) + (if f then 64 else 0) : Nat) : Int) := by
  cases a <;> cases b <;> cases c <;> cases d <;> cases f <;> decide
theorem flds_bits (e : G) : flI e.bnd (e.sz != 0) (!e.nm.toList.isEmpty) (decide (0 < e.ns.length)) (decide (0 < e.ks.length)) = ((G.flds e : Nat) : Int) := by
  rw [flI_eq, G.flds_eq]
  have h1 : (e.sz != 0) = decide (e.sz ≠ 0) := by rw [Bool.eq_iff_iff]; simp
  have h2 : (!e.nm.toList.isEmpty) = decide (e.nm.size ≠ 0) := by
    rw [bs_toList, ← bs_length, Bool.eq_iff_iff]
    cases bs e.nm <;> simp
  have h3 : decide (0 < e.ns.length) = decide (e.ns.length ≠ 0) := by rw [decide_eq_decide]; omega
  have h4 : decide (0 < e.ks.length) = decide (e.ks.length ≠ 0) := by rw [decide_eq_decide]; omega
  rw [h1, h2, h3, h4]
set_option maxRecDepth 100000 in
set_option maxHeartbeats 1000000 in
theorem fields_any (e : G) (w : World) : Calls Tryz.prog 110 #[e.val] w fun r w' => r = .returned (.int .i64 (G.flds e : Nat)) ∧ Below w.heap.size w w' := by
  have HR := Lib.hid (flds_bits e)
  by_cases hlo : e.lo = 0
  · have q1 : (e.lo != 0) = false := by rw [hlo]; rfl
    have HB : Hid (e.bnd = (e.hi != 0)) := Lib.hid (by unfold G.bnd; rw [q1]; rfl)
    rw [HB.out] at HR
    unfold flI at HR
    clear hlo
    go_enter Tryz.func110, Tryz.ntmps110
    go_wp2_with fail
    go_quiet ((go_at_call 123; exact qsame (set_any _ _ _)))
    go_wp2_with fail
    go_ret
    exact ⟨ret_int HR.out, bDrew (al1 _ _) _⟩
  · have q1 : (e.lo != 0) = true := by simpa using hlo
    have HB : Hid (e.bnd = true) := Lib.hid (by unfold G.bnd; rw [q1]; rfl)
    rw [HB.out] at HR
    unfold flI at HR
    clear hlo
    go_enter Tryz.func110, Tryz.ntmps110
    go_wp2_with fail
    go_quiet ((go_at_call 123; exact qsame (set_any _ _ _)))
    go_wp2_with fail
    go_ret
    exact ⟨ret_int HR.out, bDrew (al1 _ _) _⟩
end Go.Proofs.YtlifnabeilnblaaGreatDoor
