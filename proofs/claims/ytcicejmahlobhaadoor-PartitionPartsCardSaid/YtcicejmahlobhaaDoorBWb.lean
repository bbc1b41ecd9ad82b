/- Walks: slices.Equal at words, Equal and the reference's Equal. -/
import Derived.Test.YtcicejmahlobhaaDoorBW5
namespace Go.Proofs.YtcicejmahlobhaaDoor.Bs
open Go.RowKit
set_option linter.unusedVariables false

theorem list_eq_of {wa wb : List Nat} (hl : wa.length = wb.length) (h : ∀ j, j < wa.length → wa.getD j 0 = wb.getD j 0) : (wa == wb) = true := by
  rw [beq_iff_eq]
  apply List.ext_getElem hl
  intro i h1 h2
  have := h i h1
  rwa [List.getD_eq_getElem?_getD, List.getD_eq_getElem?_getD, List.getElem?_eq_getElem h1, List.getElem?_eq_getElem h2] at this
theorem list_ne_of {wa wb : List Nat} (j : Nat) (h : wa.getD j 0 ≠ wb.getD j 0) : (wa == wb) = false := by
  rw [beq_eq_false_iff_ne]; rintro rfl; exact h rfl
theorem list_ne_len {wa wb : List Nat} (h : wa.length ≠ wb.length) : (wa == wb) = false := by
  rw [beq_eq_false_iff_ne]; rintro rfl; exact h rfl

set_option maxRecDepth 100000 in
set_option maxHeartbeats 400000 in
theorem seq_any (A B : Option Addr) (ca cb : Nat) (wa wb : List Nat) (w : World) (ha : Words w w.heap.size A wa) (hb : Words w w.heap.size B wb) (hla : wa.length ≤ 140737488351232) :
    Calls Tryd.prog 18 #[.slice A wa.length ca, .slice B wb.length cb] w fun e w' => e = .returned (.bool (wa == wb)) ∧ ∃ q, w' = w.drewN q := by
  by_cases hl : wa.length = wb.length
  · have hl1 : ((wa.length : Int) != (wb.length : Int)) = false := by simp; omega
    have hL := Lib.hid hl
    clear hl
    go_enter Tryd.func18, Tryd.ntmps18
    go_wp2_with fail
    go_loopw [13] (fun kv wr => ∃ k q : Nat, k ≤ wa.length ∧ kv = .int .i64 k ∧ wr = w.drewN q ∧ Hid (∀ j, j < k → wa.getD j 0 = wb.getD j 0)) (fun kv _ => wa.length - (intOf kv).toNat)
    case atStart => exact ⟨0, 0, Nat.zero_le _, rfl, rfl, Lib.hid (fun j h => by omega)⟩
    case round =>
      obtain ⟨k, q, hk, rfl, rfl, hno⟩ := hrel
      by_cases hlt : k < wa.length
      · obtain ⟨b, off, x, rfl, hbb, hc, hx⟩ := ha.at_ hlt
        obtain ⟨b2, off2, y, rfl, hbb2, hc2, hy⟩ := hb.at_ (k := k) (by rw [← hL.out]; exact hlt)
        have hlt2 : (k : Int) < (wb.length : Int) := by have := hL.out; omega
        by_cases hxy : x = y
        · have hxy1 : ((x : Int) != (y : Int)) = false := by simp; omega
          have hXY := Lib.hid hxy
          clear hxy
          go_wp2_with fail
          go_quiet (fail)
          go_wp2_with fail
          go_roundw
          case rel => exact ⟨k + 1, _, by omega, by go_num, rfl, Lib.hid (fun j h => by
            by_cases e : j = k
            · rw [e, ← hx.out.1, ← hy.out.1]; exact hXY.out
            · exact hno.out j (by omega))⟩
          case measure => simp [intOf]; omega
        · have hxy1 : ((x : Int) != (y : Int)) = true := by simp; omega
          have hXY := Lib.hid hxy
          clear hxy
          go_wp2_with fail
          go_quiet (fail)
          go_wp2_with fail
          go_ret
          exact ⟨ret_bool (list_ne_of k (by rw [← hx.out.1, ← hy.out.1]; exact hXY.out)).symm, _, World.drewN_drewN _ _ _⟩
      · go_wp2_with fail
        go_ret
        exact ⟨ret_bool (list_eq_of hL.out (fun j h => hno.out j (by omega))).symm, _, rfl⟩
  · have hl1 : ((wa.length : Int) != (wb.length : Int)) = true := by simp; omega
    have hL := Lib.hid hl
    clear hl
    go_enter Tryd.func18, Tryd.ntmps18
    go_wp2_with fail
    go_ret
    exact ⟨ret_bool (list_ne_len hL.out).symm, 0, rfl⟩

end Go.Proofs.YtcicejmahlobhaaDoor.Bs
