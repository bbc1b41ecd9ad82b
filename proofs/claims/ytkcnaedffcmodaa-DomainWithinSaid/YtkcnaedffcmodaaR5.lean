/- Walks: the reference's inside; the law's same. -/
import Derived.Test.YtkcnaedffcmodaaR4
namespace Go.Proofs.Ytkcnaedffcmodaa
open Go.RowKit Go.Maps
set_option linter.unusedVariables false

namespace Kd
/-- every number lies between its bounds -/
def insB (xs lo hi : List Int) (n : Nat) : Bool := (List.range n).all fun i => decide (lo.getD i 0 ≤ xs.getD i 0) && decide (xs.getD i 0 ≤ hi.getD i 0)
theorem insB_succ {xs lo hi : List Int} {n : Nat} : insB xs lo hi (n + 1) = (insB xs lo hi n && (decide (lo.getD n 0 ≤ xs.getD n 0) && decide (xs.getD n 0 ≤ hi.getD n 0))) := by
  unfold insB; rw [List.range_succ, List.all_append]; simp
theorem insB_bad {xs lo hi : List Int} {n i : Nat} (hi' : i < n) (h : ¬ (lo.getD i 0 ≤ xs.getD i 0 ∧ xs.getD i 0 ≤ hi.getD i 0)) : insB xs lo hi n = false := by
  unfold insB
  rw [List.all_eq_false]
  exact ⟨i, List.mem_range.2 hi', by simpa using h⟩
theorem zlist_eq_of {wa wb : List Int} (hl : wa.length = wb.length) (h : ∀ j, j < wa.length → wa.getD j 0 = wb.getD j 0) : (wa == wb) = true := by
  rw [beq_iff_eq]; exact list_ext hl h
theorem zlist_ne_of {wa wb : List Int} (j : Nat) (h : wa.getD j 0 ≠ wb.getD j 0) : (wa == wb) = false := by
  rw [beq_eq_false_iff_ne]; rintro rfl; exact h rfl
theorem zlist_ne_len {wa wb : List Int} (h : wa.length ≠ wb.length) : (wa == wb) = false := by
  rw [beq_eq_false_iff_ne]; rintro rfl; exact h rfl
end Kd

set_option maxRecDepth 100000 in
set_option maxHeartbeats 1000000 in
theorem inside_any (A B D : Option Addr) (ca cb cd : Nat) (xs lo hi : List Int) (w : World) (ha : Ints w w.heap.size A xs) (hb : Ints w w.heap.size B lo) (hd : Ints w w.heap.size D hi) (hl1 : xs.length = lo.length) (hl2 : xs.length = hi.length) (hl : xs.length ≤ 1000000) :
    Calls Try.prog 30 #[.slice A xs.length ca, .slice B lo.length cb, .slice D hi.length cd] w fun e w' => e = .returned (.bool (Kd.insB xs lo hi xs.length)) ∧ Below w.heap.size w w' := by
  have HL1 := Lib.hid hl1
  have HL2 := Lib.hid hl2
  clear hl1 hl2
  go_enter Try.func30, Try.ntmps30
  go_wp2_with fail
  go_loopw [7] (fun iv wr => ∃ i : Nat, i ≤ xs.length ∧ iv = .int .i64 i ∧ Hid (Kd.insB xs lo hi i = true) ∧ Below w.heap.size w wr) (fun iv _ => xs.length - (intOf iv).toNat)
  case atStart => exact ⟨0, Nat.zero_le _, rfl, Lib.hid rfl, Below.refl _ _⟩
  case round =>
    obtain ⟨i, hi1, rfl, hin, hbl⟩ := hrel
    by_cases hlt : i < xs.length
    · obtain ⟨b1, o1, x, rfl, hb1, c1, hx⟩ := (ha.below hbl).at_ hlt
      obtain ⟨b2, o2, y, rfl, hb2, c2, hy⟩ := (hb.below hbl).at_ (k := i) (by rw [← HL1.out]; exact hlt)
      obtain ⟨b3, o3, z, rfl, hb3, c3, hz⟩ := (hd.below hbl).at_ (k := i) (by rw [← HL2.out]; exact hlt)
      have hltI : (i : Int) < (xs.length : Int) := by omega
      have hlt2 : (i : Int) < (lo.length : Int) := by have := HL1.out; omega
      have hlt3 : (i : Int) < (hi.length : Int) := by have := HL2.out; omega
      have HB : Hid (¬ (y ≤ x ∧ x ≤ z) → Kd.insB xs lo hi xs.length = false) := Lib.hid fun h => Kd.insB_bad hlt (by rw [← hx.out.1, ← hy.out.1, ← hz.out.1]; exact h)
      have HS : Hid (y ≤ x → x ≤ z → Kd.insB xs lo hi (i + 1) = true) := Lib.hid fun h1 h2 => by
        rw [Kd.insB_succ, hin.out, ← hx.out.1, ← hy.out.1, ← hz.out.1]; simp [h1, h2]
      have bq : ∀ q, Below wr.heap.size wr (wr.drewN q) := fun q => bDrew (Below.refl _ _) q
      have HBQ := Lib.hid bq
      clear bq
      by_cases g1 : x < y
      · have g1' : decide (x < y) = true := decide_eq_true g1
        have HR := Lib.hid (HB.out (by omega))
        go_wp2_with fail
        go_quiet (fail)
        go_wp2_with fail
        go_ret
        exact ⟨ret_bool HR.out.symm, bTrans hbl (HBQ.out _)⟩
      by_cases g2 : z < x
      · have g1' : decide (x < y) = false := decide_eq_false g1
        have g2' : decide (z < x) = true := decide_eq_true g2
        have HR := Lib.hid (HB.out (by omega))
        go_wp2_with fail
        go_quiet (fail)
        go_wp2_with fail
        go_ret
        exact ⟨ret_bool HR.out.symm, bTrans hbl (HBQ.out _)⟩
      have g1' : decide (x < y) = false := decide_eq_false g1
      have g2' : decide (z < x) = false := decide_eq_false g2
      have HR := Lib.hid (HS.out (by omega) (by omega))
      go_wp2_with fail
      go_quiet (fail)
      go_wp2_with fail
      go_roundw
      case rel => exact ⟨i + 1, by omega, by go_num, HR, bTrans hbl (HBQ.out _)⟩
      case measure => simp [intOf]; omega
    · obtain rfl : i = xs.length := by omega
      go_wp2_with fail
      go_ret
      exact ⟨ret_bool hin.out.symm, hbl⟩

set_option maxRecDepth 100000 in
set_option maxHeartbeats 400000 in
theorem same_any (A B : Option Addr) (ca cb : Nat) (wa wb : List Int) (w : World) (ha : Ints w w.heap.size A wa) (hb : Ints w w.heap.size B wb) (hla : wa.length ≤ 140737488351232) :
    Calls Try.prog 17 #[.slice A wa.length ca, .slice B wb.length cb] w fun e w' => e = .returned (.bool (wa == wb)) ∧ Below w.heap.size w w' := by
  by_cases hl : wa.length = wb.length
  · have hl1 : ((wa.length : Int) != (wb.length : Int)) = false := by simp; omega
    have hL := Lib.hid hl
    clear hl
    go_enter Try.func17, Try.ntmps17
    go_wp2_with fail
    go_loopw [13] (fun kv wr => ∃ k q : Nat, k ≤ wa.length ∧ kv = .int .i64 k ∧ wr = w.drewN q ∧ Hid (∀ j, j < k → wa.getD j 0 = wb.getD j 0)) (fun kv _ => wa.length - (intOf kv).toNat)
    case atStart => exact ⟨0, 0, Nat.zero_le _, rfl, rfl, Lib.hid (fun j h => by omega)⟩
    case round =>
      obtain ⟨k, q, hk, rfl, rfl, hno⟩ := hrel
      by_cases hlt : k < wa.length
      · obtain ⟨b, off, x, rfl, hbb, hc, hx⟩ := ha.at_ hlt
        obtain ⟨b2, off2, y, rfl, hbb2, hc2, hy⟩ := hb.at_ (k := k) (by rw [← hL.out]; exact hlt)
        have hlt2 : (k : Int) < (wb.length : Int) := by have := hL.out; omega
        by_cases hxy : x = y
        · have hxy1 : (x != y) = false := by simp; omega
          have hXY := Lib.hid hxy
          clear hxy
          go_wp2_with fail
          go_quiet (fail)
          go_wp2_with fail
          go_roundw
          case rel => exact ⟨k + 1, _, by omega, by go_num, rfl, Lib.hid (fun j h => by
            by_cases e : j = k
            · rw [e, ← hx.out.1, ← hy.out.1]; exact hXY.out
            · exact hno.out j (by omega))⟩
          case measure => simp [intOf]; omega
        · have hxy1 : (x != y) = true := by simp; omega
          have hXY := Lib.hid hxy
          clear hxy
          go_wp2_with fail
          go_quiet (fail)
          go_wp2_with fail
          go_ret
          exact ⟨ret_bool (Kd.zlist_ne_of k (by rw [← hx.out.1, ← hy.out.1]; exact hXY.out)).symm, bDrew (bDrew (Below.refl _ _) _) _⟩
      · go_wp2_with fail
        go_ret
        exact ⟨ret_bool (Kd.zlist_eq_of hL.out (fun j h => hno.out j (by omega))).symm, bDrew (Below.refl _ _) _⟩
  · have hl1 : ((wa.length : Int) != (wb.length : Int)) = true := by simp; omega
    have hL := Lib.hid hl
    clear hl
    go_enter Try.func17, Try.ntmps17
    go_wp2_with fail
    go_ret
    exact ⟨ret_bool (Kd.zlist_ne_len hL.out).symm, Below.refl _ _⟩
end Go.Proofs.Ytkcnaedffcmodaa
