/- Walks: the reference's Valid. -/
import Derived.Test.YtckenemkfegopaaDoorW2
namespace Go.Proofs.YtckenemkfegopaaDoor
open Go.RowKit
set_option linter.unusedVariables false

theorem valid_tail {size : Int} {ws : List Nat} (hlt : ∀ x ∈ ws, x < 2 ^ 64) (h0 : 0 ≤ size) (h1 : size ≤ 4096) (he : ws.length = Kb.nw size.toNat) (h : ∀ j, size.toNat ≤ j → j < 64 * ws.length → Kb.bitAt ws j = false) : Kb.validB size ws = true := by
  refine (Kb.validB_iff hlt).2 ⟨h0, h1, he, hlt, fun i hi => ?_⟩
  by_cases hl : i < 64 * ws.length
  · exact h i hi hl
  · unfold Kb.bitAt
    rw [List.getD_eq_getElem?_getD, List.getElem?_eq_none (by omega)]; simp
theorem valid_bit {size : Int} {ws : List Nat} (hlt : ∀ x ∈ ws, x < 2 ^ 64) (j : Nat) (hj : size.toNat ≤ j) (hb : Kb.bitAt ws j = true) : Kb.validB size ws = false := by
  cases hv : Kb.validB size ws with
  | false => rfl
  | true =>
    have := ((Kb.validB_iff hlt).1 hv).2.2.tail j hj
    rw [hb] at this; cases this

set_option maxRecDepth 100000 in
set_option maxHeartbeats 400000 in
theorem rvalid_any (size : Int) (A : Option Addr) (c : Nat) (ws : List Nat) (w : World) (h : Words w w.heap.size A ws) (hl : ws.length ≤ 140737488351232) :
    Calls Tryd.prog 52 #[setV size A ws.length c] w fun e w' => e = .returned (.bool (Kb.validB size ws)) ∧ Below w.heap.size w w' := by
  unfold setV
  by_cases h0 : 0 ≤ size
  · by_cases h1 : size ≤ 4096
    · obtain ⟨n, rfl⟩ := Int.eq_ofNat_of_zero_le h0
      by_cases he : ws.length = Kb.nw n
      · have hle : ws.length ≤ 64 := by rw [he]; unfold Kb.nw; omega
        have he1 : ((ws.length : Int) != ((n : Int) + 63) / 64) = false := by rw [he]; unfold Kb.nw; simp
        have hE := Lib.hid he
        clear he
        have hd1 : decide ((n : Int) < 0) = false := by simp
        have hd2 : decide ((4096 : Int) < (n : Int)) = false := by simp; omega
        go_enter Tryd.func52, Tryd.ntmps52
        go_wp2_with fail
        go_loopw [3] (fun i wr => ∃ k q : Nat, n ≤ k ∧ k ≤ 64 * ws.length ∧ i = .int .i64 k ∧ Hid (∀ j, n ≤ j → j < k → Kb.bitAt ws j = false) ∧ wr = (w.alloc (.cells #[.int .i64 (n : Int), .slice A ws.length c] 46)).drewN q) (fun i _ => 64 * ws.length - (intOf i).toNat)
        case atStart => exact ⟨n, 0, Nat.le_refl _, by rw [hE.out]; unfold Kb.nw; omega, rfl, Lib.hid (fun j a b => by omega), rfl⟩
        case round =>
          obtain ⟨k, q, hk1, hk2, rfl, hbits, rfl⟩ := hrel
          by_cases hlt : k < 64 * ws.length
          · cases hb : Kb.bitAt ws k
            · have hB := Lib.hid hb
              clear hb
              go_wp2_with fail
              refine (bit_any A c k ws _ w.heap.size ((h.alloc (Nat.le_refl _) _).drewN q) (by omega) (by omega)).mono ?_
              rintro e w' ⟨rfl, m, rfl⟩
              rw [hB.out]
              go_wp2_with fail
              go_roundw
              case rel => exact ⟨k + 1, q + m, by omega, by omega, by go_num, Lib.hid (fun j a b => by
                by_cases e : j = k
                · rw [e]; exact hB.out
                · exact hbits.out j a (by omega)), rfl⟩
              case measure => simp [intOf]; omega
            · have hB := Lib.hid hb
              clear hb
              go_wp2_with fail
              refine (bit_any A c k ws _ w.heap.size ((h.alloc (Nat.le_refl _) _).drewN q) (by omega) (by omega)).mono ?_
              rintro e w' ⟨rfl, m, rfl⟩
              rw [hB.out]
              go_wp2_with fail
              go_ret
              exact ⟨ret_bool (valid_bit h.lt k (by omega) hB.out).symm, bBox _ _ _⟩
          · go_wp2_with fail
            go_ret
            exact ⟨ret_bool (valid_tail h.lt h0 h1 hE.out (fun j a b => hbits.out j a (by omega))).symm, bBox _ _ _⟩
      · have he1 : ((ws.length : Int) != ((n : Int) + 63) / 64) = true := by unfold Kb.nw at he; simp; omega
        have hv : Hid (Kb.validB n ws = false) := Lib.hid (valid_len h0 he)
        have hE := Lib.hid he
        clear he
        go_enter Tryd.func52, Tryd.ntmps52
        go_wp2_with fail
        go_ret
        exact ⟨ret_bool hv.out.symm, bBox _ _ 0⟩
    · have hv : Hid (Kb.validB size ws = false) := Lib.hid (valid_size (fun h => h1 h.2))
      go_enter Tryd.func52, Tryd.ntmps52
      go_wp2_with fail
      go_ret
      exact ⟨ret_bool hv.out.symm, bBox _ _ 0⟩
  · have hv : Hid (Kb.validB size ws = false) := Lib.hid (valid_size (fun h => h0 h.1))
    go_enter Tryd.func52, Tryd.ntmps52
    go_wp2_with fail
    go_ret
    exact ⟨ret_bool hv.out.symm, bBox _ _ 0⟩
end Go.Proofs.YtckenemkfegopaaDoor
