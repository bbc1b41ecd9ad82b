/- Walks: the reference's IsName. -/
import Derived.Test.YtcckocaaoklibaaN2
namespace Go.Proofs.Ytcckocaaoklibaa
open Go.RowKit
set_option linter.unusedVariables false

set_option maxRecDepth 100000 in
set_option maxHeartbeats 1000000 in
theorem risName_any (s : ByteArray) (w : World) : Calls Try.prog 24 #[.string s] w fun e w' => e = .returned (.bool (nameB s)) ∧ w = w' := by
  by_cases h0 : s.size = 0
  · have hR := Lib.hid (nameB_empty h0)
    have h0' : (s.size : Int) < 1 := by omega
    have H0 := Lib.hid h0
    clear h0
    go_enter Try.func24, Try.ntmps24
    go_wp2_with fail
    go_ret
    exact ⟨ret_bool hR.out.symm, rfl⟩
  have h0' : ¬ (s.size : Int) < 1 := by omega
  by_cases h1 : 12 < s.size
  · have hR := Lib.hid (nameB_long h1)
    have h1' : (12 : Int) < (s.size : Int) := by omega
    go_enter Try.func24, Try.ntmps24
    go_wp2_with fail
    go_ret
    exact ⟨ret_bool hR.out.symm, rfl⟩
  have h1' : ¬ (12 : Int) < (s.size : Int) := by omega
  have hp : 0 < s.size := by omega
  go_enter Try.func24, Try.ntmps24
  go_wp2_with fail
  go_loop [3] (fun kv => ∃ k : Nat, k ≤ s.size ∧ kv = .int .i64 k ∧ Hid (∀ j, j < k → (letB (byteAt s j) || (!(j == 0) && digB (byteAt s j))) = true)) (fun kv => s.size - (intOf kv).toNat)
  case atStart => exact ⟨0, Nat.zero_le _, rfl, Lib.hid fun j a => by omega⟩
  case round =>
    obtain ⟨k, hk, rfl, hok⟩ := hrel
    by_cases hlt : k < s.size
    · have ek := Lib.hid (byteAt_eq hlt)
      have hltI : (k : Int) < (s.size : Int) := by omega
      have hfail : Hid ((letB (byteAt s k) || (!(k == 0) && digB (byteAt s k))) = false → nameB s = false) := Lib.hid fun hh => by
        rw [Bool.or_eq_false_iff, Bool.and_eq_false_iff] at hh
        by_cases e : k = 0
        · subst e; exact nameB_first hh.1
        · rcases hh.2 with h2 | h2
          · simp at h2; exact absurd h2 e
          · exact nameB_at (by omega) hlt hh.1 h2
      have hnext : Hid ((letB (byteAt s k) || (!(k == 0) && digB (byteAt s k))) = true → ∀ j, j < k + 1 → (letB (byteAt s j) || (!(j == 0) && digB (byteAt s j))) = true) := Lib.hid fun hh j hj => by
        by_cases e : j = k
        · rw [e]; exact hh
        · exact hok.out j (by omega)
      obtain ⟨z, hz⟩ : ∃ z : Int, Hid (byteAt s k = z) := ⟨_, Lib.hid rfl⟩
      have ez : ((s[k].toNat : Nat) : Int) = z := by rw [ek.out, hz.out]
      rw [hz.out] at hfail hnext
      by_cases q1 : 97 ≤ z
      · by_cases q2 : z ≤ 122
        · have hl : letB z = true := by unfold letB; simp [q1, q2]
          have q3 : 48 ≤ z := by omega
          have q4 : ¬ z ≤ 57 := by omega
          have hR := Lib.hid (hnext.out (by rw [hl]; rfl))
          clear hl
          go_wp2_with fail
          go_round
          case rel => exact ⟨k + 1, by omega, by go_num, hR⟩
          case measure => simp [intOf]; omega
        · have hl : letB z = false := by unfold letB; rw [show decide (z ≤ 122) = false by simpa using q2]; simp
          have hd : digB z = false := by unfold digB; rw [show decide (z ≤ 57) = false by simp; omega]; simp
          have q3 : 48 ≤ z := by omega
          have q4 : ¬ z ≤ 57 := by omega
          have hR := Lib.hid (hfail.out (by rw [hl, hd]; simp))
          clear hl hd
          by_cases hk0 : k = 0
          · subst hk0
            go_wp2_with fail
            go_ret
            exact ⟨ret_bool hR.out.symm, rfl⟩
          · have hkb : ((k : Int) == 0) = false := by rw [beq_eq_false_iff_ne]; omega
            go_wp2_with fail
            go_ret
            exact ⟨ret_bool hR.out.symm, rfl⟩
      · have hl : letB z = false := by unfold letB; rw [show decide (97 ≤ z) = false by simpa using q1]; rfl
        by_cases hk0 : k = 0
        · subst hk0
          have hR := Lib.hid (hfail.out (by rw [hl]; rfl))
          clear hl
          by_cases q3 : 48 ≤ z
          · go_wp2_with fail
            go_ret
            exact ⟨ret_bool hR.out.symm, rfl⟩
          · go_wp2_with fail
            go_ret
            exact ⟨ret_bool hR.out.symm, rfl⟩
        · have hkb : ((k : Int) == 0) = false := by rw [beq_eq_false_iff_ne]; omega
          have hkb2 : (k == 0) = false := by simpa using hk0
          by_cases q3 : 48 ≤ z
          · by_cases q4 : z ≤ 57
            · have hd : digB z = true := by unfold digB; simp [q3, q4]
              have hR := Lib.hid (hnext.out (by rw [hl, hd, hkb2]; rfl))
              clear hl hd
              go_wp2_with fail
              go_round
              case rel => exact ⟨k + 1, by omega, by go_num, hR⟩
              case measure => simp [intOf]; omega
            · have hd : digB z = false := by unfold digB; rw [show decide (z ≤ 57) = false by simpa using q4]; simp
              have hR := Lib.hid (hfail.out (by rw [hl, hd]; simp))
              clear hl hd
              go_wp2_with fail
              go_ret
              exact ⟨ret_bool hR.out.symm, rfl⟩
          · have hd : digB z = false := by unfold digB; rw [show decide (48 ≤ z) = false by simpa using q3]; rfl
            have hR := Lib.hid (hfail.out (by rw [hl, hd]; simp))
            clear hl hd
            go_wp2_with fail
            go_ret
            exact ⟨ret_bool hR.out.symm, rfl⟩
    · have hltI : ¬ (k : Int) < (s.size : Int) := by omega
      have hR := Lib.hid (nameB_yes hp (by omega) (by have := hok.out 0 (by omega); simpa using this) (fun j a b => by
        have := hok.out j (by omega)
        rw [show (j == 0) = false by simp; omega] at this
        simpa using this))
      go_wp2_with fail
      go_ret
      exact ⟨ret_bool hR.out.symm, rfl⟩
end Go.Proofs.Ytcckocaaoklibaa
