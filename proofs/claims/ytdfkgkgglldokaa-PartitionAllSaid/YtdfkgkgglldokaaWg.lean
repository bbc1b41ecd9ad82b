/- Walks: cmp.Compare and slices.Compare of ints. -/
import Derived.Test.YtdfkgkgglldokaaW4
namespace Go.Proofs.Ytdfkgkgglldokaa
open Go.RowKit
set_option linter.unusedVariables false

/-- the order of two numbers -/
def cmpZ (x y : Int) : Int := if x < y then -1 else if y < x then 1 else 0
/-- the order of two lists of numbers -/
def cmpL : List Int → List Int → Int
  | [], [] => 0
  | [], _ :: _ => -1
  | _ :: _, [] => 1
  | a :: r, b :: s => if a < b then -1 else if b < a then 1 else cmpL r s

theorem drop_at (l : List Int) (k : Nat) (hk : k < l.length) : l.drop k = l.getD k 0 :: l.drop (k + 1) := by
  rw [List.drop_eq_getElem_cons hk, List.getD_eq_getElem?_getD, List.getElem?_eq_getElem hk]; rfl
theorem cmpL_end {a b : List Int} {k : Nat} (ha : k < a.length) (hb : b.length ≤ k) : cmpL (a.drop k) (b.drop k) = 1 := by
  rw [drop_at a k ha, List.drop_eq_nil_of_le hb]; rfl
theorem cmpL_lt {a b : List Int} {k : Nat} (ha : k < a.length) (hb : k < b.length) (h : a.getD k 0 < b.getD k 0) : cmpL (a.drop k) (b.drop k) = -1 := by
  rw [drop_at a k ha, drop_at b k hb]; unfold cmpL; rw [if_pos h]
theorem cmpL_gt {a b : List Int} {k : Nat} (ha : k < a.length) (hb : k < b.length) (h : b.getD k 0 < a.getD k 0) : cmpL (a.drop k) (b.drop k) = 1 := by
  rw [drop_at a k ha, drop_at b k hb]; unfold cmpL; rw [if_neg (by omega), if_pos h]
theorem cmpL_eq {a b : List Int} {k : Nat} (ha : k < a.length) (hb : k < b.length) (h : a.getD k 0 = b.getD k 0) : cmpL (a.drop k) (b.drop k) = cmpL (a.drop (k + 1)) (b.drop (k + 1)) := by
  rw [drop_at a k ha, drop_at b k hb]
  show (if _ < _ then _ else if _ < _ then _ else _) = _
  rw [if_neg (by omega), if_neg (by omega)]
theorem cmpL_done {a b : List Int} : cmpL (a.drop a.length) (b.drop a.length) = if a.length < b.length then -1 else 0 := by
  rw [List.drop_length]
  by_cases h : a.length < b.length
  · rw [if_pos h, drop_at b _ h]; rfl
  · rw [if_neg h, List.drop_eq_nil_of_le (by omega)]; rfl

set_option maxRecDepth 100000 in
set_option maxHeartbeats 400000 in
theorem nan_any (x : Int) (w : World) : Calls Try.prog 43 #[.int .i64 x] w fun e w' => e = .returned (.bool false) ∧ w = w' := by
  have hx : (x != x) = false := by simp
  go_enter Try.func43, Try.ntmps43
  go_wp2_with fail
  go_ret
  exact ⟨ret_bool (by simp), rfl⟩

set_option maxRecDepth 100000 in
set_option maxHeartbeats 400000 in
theorem cmp_any (x y : Int) (w : World) : Calls Try.prog 42 #[.int .i64 x, .int .i64 y] w fun e w' => e = .returned (.int .i64 (cmpZ x y)) ∧ w = w' := by
  go_enter Try.func42, Try.ntmps42
  go_wp2_with fail
  refine (nan_any x _).mono ?_
  rintro e w1 ⟨rfl, rfl⟩
  go_wp2_with fail
  refine (nan_any y _).mono ?_
  rintro e w1 ⟨rfl, rfl⟩
  rcases Int.lt_trichotomy x y with h | h | h
  · have hc : Hid (cmpZ x y = -1) := Lib.hid (by unfold cmpZ; rw [if_pos h])
    go_wp2_with fail
    go_ret
    exact ⟨ret_int (by rw [hc.out]), rfl⟩
  · have hc : Hid (cmpZ x y = 0) := Lib.hid (by unfold cmpZ; rw [if_neg (by omega), if_neg (by omega)])
    have h1 : ¬ x < y := by omega
    have h2 : ¬ y < x := by omega
    clear h
    go_wp2_with fail
    go_ret
    exact ⟨ret_int (by rw [hc.out]), rfl⟩
  · have hc : Hid (cmpZ x y = 1) := Lib.hid (by unfold cmpZ; rw [if_neg (by omega), if_pos h])
    have h1 : ¬ x < y := by omega
    go_wp2_with fail
    go_ret
    exact ⟨ret_int (by rw [hc.out]), rfl⟩

set_option maxRecDepth 100000 in
set_option maxHeartbeats 400000 in
theorem scmp_any (A B : Option Addr) (ca cb : Nat) (wa wb : List Int) (w : World) (ha : Ints w w.heap.size A wa) (hb : Ints w w.heap.size B wb) (hla : wa.length ≤ 1000000) (hlb : wb.length ≤ 1000000) :
    Calls Try.prog 37 #[.slice A wa.length ca, .slice B wb.length cb] w fun e w' => e = .returned (.int .i64 (cmpL wa wb)) ∧ w = w' := by
  go_enter Try.func37, Try.ntmps37
  go_wp2_with fail
  go_loop [11] (fun kv => ∃ k : Nat, k ≤ wa.length ∧ kv = .int .i64 k ∧ Hid (cmpL wa wb = cmpL (wa.drop k) (wb.drop k))) (fun kv => wa.length - (intOf kv).toNat)
  case atStart => exact ⟨0, Nat.zero_le _, rfl, Lib.hid rfl⟩
  case round =>
    obtain ⟨k, hk, rfl, hno⟩ := hrel
    by_cases hlt : k < wa.length
    · obtain ⟨b, off, x, rfl, hbb, hc, hx⟩ := ha.at_ hlt
      by_cases hl2 : k < wb.length
      · obtain ⟨b2, off2, y, rfl, hbb2, hc2, hy⟩ := hb.at_ hl2
        go_wp2_with fail
        refine (cmp_any x y _).mono ?_
        rintro e w1 ⟨rfl, rfl⟩
        rcases Int.lt_trichotomy x y with h | h | h
        · have hz : cmpZ x y = -1 := by unfold cmpZ; rw [if_pos h]
          have hr : Hid (cmpL wa wb = -1) := Lib.hid (hno.out.trans (cmpL_lt hlt hl2 (by rw [← hx.out.1, ← hy.out.1]; exact h)))
          rw [hz]
          clear h hz
          go_wp2_with fail
          go_ret
          exact ⟨ret_int (by rw [hr.out]), rfl⟩
        · have hz : cmpZ x y = 0 := by unfold cmpZ; rw [if_neg (by omega), if_neg (by omega)]
          have hr : Hid (cmpL wa wb = cmpL (wa.drop (k + 1)) (wb.drop (k + 1))) := Lib.hid (hno.out.trans (cmpL_eq hlt hl2 (by rw [← hx.out.1, ← hy.out.1]; exact h)))
          rw [hz]
          clear h hz
          go_wp2_with fail
          go_round
          case rel => exact ⟨k + 1, by omega, by go_num, hr⟩
          case measure => simp [intOf]; omega
        · have hz : cmpZ x y = 1 := by unfold cmpZ; rw [if_neg (by omega), if_pos h]
          have hr : Hid (cmpL wa wb = 1) := Lib.hid (hno.out.trans (cmpL_gt hlt hl2 (by rw [← hx.out.1, ← hy.out.1]; exact h)))
          rw [hz]
          clear h hz
          go_wp2_with fail
          go_ret
          exact ⟨ret_int (by rw [hr.out]), rfl⟩
      · have hr : Hid (cmpL wa wb = 1) := Lib.hid (hno.out.trans (cmpL_end hlt (by omega)))
        have hge : (wb.length : Int) ≤ (k : Int) := by omega
        go_wp2_with fail
        go_ret
        exact ⟨ret_int (by rw [hr.out]), rfl⟩
    · obtain rfl : k = wa.length := by omega
      by_cases hl : wa.length < wb.length
      · have hr : Hid (cmpL wa wb = -1) := Lib.hid (hno.out.trans (by rw [cmpL_done, if_pos hl]))
        have hll : (wa.length : Int) < (wb.length : Int) := by omega
        go_wp2_with fail
        go_ret
        exact ⟨ret_int (by rw [hr.out]), rfl⟩
      · have hr : Hid (cmpL wa wb = 0) := Lib.hid (hno.out.trans (by rw [cmpL_done, if_neg hl]))
        have hll : ¬ (wa.length : Int) < (wb.length : Int) := by omega
        go_wp2_with fail
        go_ret
        exact ⟨ret_int (by rw [hr.out]), rfl⟩
end Go.Proofs.Ytdfkgkgglldokaa
