/- Walks: slices.Equal of ints; Valid and the reference's. -/
import Derived.Test.YtcicejmahlobhaaDoorChecked
import Derived.Test.YtcicejmahlobhaaDoorMem
import Derived.Test.YtcicejmahlobhaaDoorJoin
import Derived.Outline
import Derived.Deep.QuietTactic
import Derived.BigQuiet
import Derived.Deep.DeepFit
import Derived.Handy
namespace Go.Proofs.YtcicejmahlobhaaDoor
open Go.RowKit
set_option linter.unusedVariables false

theorem zlist_eq_of {wa wb : List Int} (hl : wa.length = wb.length) (h : ∀ j, j < wa.length → wa.getD j 0 = wb.getD j 0) : (wa == wb) = true := by
  rw [beq_iff_eq]
  apply List.ext_getElem hl
  intro j h1 h2
  have := h j h1
  rw [List.getD_eq_getElem?_getD, List.getD_eq_getElem?_getD, List.getElem?_eq_getElem h1, List.getElem?_eq_getElem h2] at this
  exact this
theorem zlist_ne_of {wa wb : List Int} (j : Nat) (h : wa.getD j 0 ≠ wb.getD j 0) : (wa == wb) = false := by
  rw [beq_eq_false_iff_ne]; rintro rfl; exact h rfl
theorem zlist_ne_len {wa wb : List Int} (h : wa.length ≠ wb.length) : (wa == wb) = false := by
  rw [beq_eq_false_iff_ne]; rintro rfl; exact h rfl

set_option maxRecDepth 100000 in
set_option maxHeartbeats 400000 in
theorem seqi_any (A B : Option Addr) (ca cb : Nat) (wa wb : List Int) (w : World) (ha : Ints w w.heap.size A wa) (hb : Ints w w.heap.size B wb) (hla : wa.length ≤ 140737488351232) :
    Calls Tryd.prog 42 #[.slice A wa.length ca, .slice B wb.length cb] w fun e w' => e = .returned (.bool (wa == wb)) ∧ ∃ q, w' = w.drewN q := by
  by_cases hl : wa.length = wb.length
  · have hl1 : ((wa.length : Int) != (wb.length : Int)) = false := by simp; omega
    have hL := Lib.hid hl
    clear hl
    go_enter Tryd.func42, Tryd.ntmps42
    go_wp2_with fail
    go_loopw [13] (fun kv wr => ∃ k q : Nat, k ≤ wa.length ∧ kv = .int .i64 k ∧ wr = w.drewN q ∧ Hid (∀ j, j < k → wa.getD j 0 = wb.getD j 0)) (fun kv _ => wa.length - (intOf kv).toNat)
    case atStart => exact ⟨0, 0, Nat.zero_le _, rfl, rfl, Lib.hid (fun j h => by omega)⟩
    case round =>
      obtain ⟨k, q, hk, rfl, rfl, hno⟩ := hrel
      by_cases hlt : k < wa.length
      · obtain ⟨b, off, x, rfl, hbb, hc, hx⟩ := ha.at_ hlt
        obtain ⟨b2, off2, y, rfl, hbb2, hc2, hy⟩ := hb.at_ (k := k) (by rw [← hL.out]; exact hlt)
        have hlt2 : (k : Int) < (wb.length : Int) := by have := hL.out; omega
        by_cases hxy : x = y
        · have hxy1 : (x != y) = false := by simp; omega
          have hXY := Lib.hid hxy
          clear hxy
          go_wp2_with fail
          go_quiet (fail)
          go_wp2_with fail
          go_roundw
          case rel => exact ⟨k + 1, _, by omega, by go_num, rfl, Lib.hid (fun j h => by
            by_cases e : j = k
            · rw [e, ← hx.out.1, ← hy.out.1]; exact hXY.out
            · exact hno.out j (by omega))⟩
          case measure => simp [intOf]; omega
        · have hxy1 : (x != y) = true := by simp; omega
          have hXY := Lib.hid hxy
          clear hxy
          go_wp2_with fail
          go_quiet (fail)
          go_wp2_with fail
          go_ret
          exact ⟨ret_bool (zlist_ne_of k (by rw [← hx.out.1, ← hy.out.1]; exact hXY.out)).symm, _, World.drewN_drewN _ _ _⟩
      · go_wp2_with fail
        go_ret
        exact ⟨ret_bool (zlist_eq_of hL.out (fun j h => hno.out j (by omega))).symm, _, rfl⟩
  · have hl1 : ((wa.length : Int) != (wb.length : Int)) = true := by simp; omega
    have hL := Lib.hid hl
    clear hl
    go_enter Tryd.func42, Tryd.ntmps42
    go_wp2_with fail
    go_ret
    exact ⟨ret_bool (zlist_ne_len hL.out).symm, 0, rfl⟩

set_option maxRecDepth 100000 in
set_option maxHeartbeats 400000 in
theorem bvalid_any (A : Option Addr) (c : Nat) (zs : List Int) (w : World) (h : Ints w w.heap.size A zs) (hl : zs.length ≤ 1000000) :
    Calls Tryd.prog 68 #[.slice A zs.length c] w fun e w' => e = .returned (.bool (Kp.vB zs)) ∧ w = w' := by
  go_enter Tryd.func68, Tryd.ntmps68
  go_wp2_with fail
  go_loop [3, 8] (fun cv kv => ∃ k m : Nat, k ≤ zs.length ∧ kv = .int .i64 k ∧ m ≤ k ∧ cv = .int .i64 m ∧ Hid (Kp.vt (Kp.lab zs) k = some m)) (fun _ kv => zs.length - (intOf kv).toNat)
  case atStart => exact ⟨0, 0, Nat.zero_le _, rfl, Nat.le_refl _, rfl, Lib.hid rfl⟩
  case round =>
    obtain ⟨k, m, hk, rfl, hm, rfl, hv⟩ := hrel
    by_cases hlt : k < zs.length
    · obtain ⟨b, off, x, rfl, hbb, hc, hx⟩ := h.at_ hlt
      by_cases hx0 : x < 0
      · have hR : Hid (Kp.vB zs = false) := Lib.hid (Kp.vB_no hlt (Kp.vt_bad hv.out (fun hh => by
          have h1 : x = Kp.lab zs k := hx.out.1
          omega)))
        go_wp2_with fail
        go_ret
        exact ⟨ret_bool hR.out.symm, rfl⟩
      · by_cases hx1 : (m : Int) < x
        · have hR : Hid (Kp.vB zs = false) := Lib.hid (Kp.vB_no hlt (Kp.vt_bad hv.out (fun hh => by
            have h1 : x = Kp.lab zs k := hx.out.1
            omega)))
          go_wp2_with fail
          go_ret
          exact ⟨ret_bool hR.out.symm, rfl⟩
        · by_cases hx2 : x = (m : Int)
          · have hR : Hid (Kp.vt (Kp.lab zs) (k + 1) = some (m + 1)) := Lib.hid (Kp.vt_eq hv.out (by rw [← hx2]; exact hx.out.1.symm))
            subst hx2
            go_wp2_with fail
            go_round
            case rel => exact ⟨k + 1, m + 1, by omega, by go_num, by omega, by go_num, hR⟩
            case measure => simp [intOf]; omega
          · have hR : Hid (Kp.vt (Kp.lab zs) (k + 1) = some m) := Lib.hid (Kp.vt_lt hv.out (by have h1 : x = Kp.lab zs k := hx.out.1; omega) (by have h1 : x = Kp.lab zs k := hx.out.1; omega))
            have hx3 : (x == (m : Int)) = false := by simp; omega
            clear hx2
            go_wp2_with fail
            go_round
            case rel => exact ⟨k + 1, m, by omega, by go_num, by omega, rfl, hR⟩
            case measure => simp [intOf]; omega
    · obtain rfl : k = zs.length := by omega
      have hR : Hid (Kp.vB zs = true) := Lib.hid (Kp.vB_yes hv.out)
      go_wp2_with fail
      go_ret
      exact ⟨ret_bool hR.out.symm, rfl⟩

set_option maxRecDepth 100000 in
set_option maxHeartbeats 400000 in
theorem rvalid_any (A : Option Addr) (c : Nat) (zs : List Int) (w : World) (h : Ints w w.heap.size A zs) (hl : zs.length ≤ 1000000) :
    Calls Tryd.prog 50 #[.slice A zs.length c] w fun e w' => e = .returned (.bool (Kp.vB zs)) ∧ w = w' := by
  go_enter Tryd.func50, Tryd.ntmps50
  go_wp2_with fail
  go_loop [3, 4] (fun cv kv => ∃ k m : Nat, k ≤ zs.length ∧ kv = .int .i64 k ∧ m ≤ k ∧ cv = .int .i64 m ∧ Hid (Kp.vt (Kp.lab zs) k = some m)) (fun _ kv => zs.length - (intOf kv).toNat)
  case atStart => exact ⟨0, 0, Nat.zero_le _, rfl, Nat.le_refl _, rfl, Lib.hid rfl⟩
  case round =>
    obtain ⟨k, m, hk, rfl, hm, rfl, hv⟩ := hrel
    by_cases hlt : k < zs.length
    · obtain ⟨b, off, x, rfl, hbb, hc, hx⟩ := h.at_ hlt
      by_cases hx0 : x < 0
      · have hR : Hid (Kp.vB zs = false) := Lib.hid (Kp.vB_no hlt (Kp.vt_bad hv.out (fun hh => by
          have h1 : x = Kp.lab zs k := hx.out.1
          omega)))
        go_wp2_with fail
        go_ret
        exact ⟨ret_bool hR.out.symm, rfl⟩
      · by_cases hx1 : (m : Int) < x
        · have hR : Hid (Kp.vB zs = false) := Lib.hid (Kp.vB_no hlt (Kp.vt_bad hv.out (fun hh => by
            have h1 : x = Kp.lab zs k := hx.out.1
            omega)))
          go_wp2_with fail
          go_ret
          exact ⟨ret_bool hR.out.symm, rfl⟩
        · by_cases hx2 : x = (m : Int)
          · have hR : Hid (Kp.vt (Kp.lab zs) (k + 1) = some (m + 1)) := Lib.hid (Kp.vt_eq hv.out (by rw [← hx2]; exact hx.out.1.symm))
            subst hx2
            go_wp2_with fail
            go_round
            case rel => exact ⟨k + 1, m + 1, by omega, by go_num, by omega, by go_num, hR⟩
            case measure => simp [intOf]; omega
          · have hR : Hid (Kp.vt (Kp.lab zs) (k + 1) = some m) := Lib.hid (Kp.vt_lt hv.out (by have h1 : x = Kp.lab zs k := hx.out.1; omega) (by have h1 : x = Kp.lab zs k := hx.out.1; omega))
            have hx3 : (x == (m : Int)) = false := by simp; omega
            clear hx2
            go_wp2_with fail
            go_round
            case rel => exact ⟨k + 1, m, by omega, by go_num, by omega, rfl, hR⟩
            case measure => simp [intOf]; omega
    · obtain rfl : k = zs.length := by omega
      have hR : Hid (Kp.vB zs = true) := Lib.hid (Kp.vB_yes hv.out)
      go_wp2_with fail
      go_ret
      exact ⟨ret_bool hR.out.symm, rfl⟩
end Go.Proofs.YtcicejmahlobhaaDoor
