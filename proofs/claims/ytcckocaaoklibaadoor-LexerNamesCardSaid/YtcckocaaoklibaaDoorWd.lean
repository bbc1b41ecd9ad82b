/- Walks: IsName of package lexer and of the reference. -/
import Derived.Test.YtcckocaaoklibaaDoorLex5
import Derived.Test.YtcckocaaoklibaaDoorLawTokens
namespace Go.Proofs.YtcckocaaoklibaaDoor
open Go.RowKit
set_option linter.unusedVariables false

theorem name_eq {s : ByteArray} (h : 0 < s.size) : Kx.nameB (bs s) = (Kx.letC s[0] && ((bs s).takeWhile Kx.alC == bs s) && decide (s.size ≤ 12) && !Kx.resB (bs s)) := by
  have hd := drop_at (s := s) (k := 0) h
  rw [List.drop_zero] at hd
  have hl := bs_length s
  rw [← hl]
  generalize (bs s).drop (0 + 1) = r at hd
  generalize bs s = l at *
  subst hd
  rfl
theorem empty_bs {s : ByteArray} (h : s.size = 0) : s = ⟨#[]⟩ := bs_inj (by
  have := bs_length s
  rw [h] at this
  rw [List.eq_nil_of_length_eq_zero this]; rfl)
set_option maxRecDepth 100000 in
set_option maxHeartbeats 1000000 in
theorem isname_any (s : ByteArray) (hs : s.size ≤ 1000) (w : World) (hT : LexT w) : Calls Tryd.prog 26 #[.string s] w fun e w' => e = .returned (.bool (Kx.nameB (bs s))) ∧ Below w.heap.size w w' := by
  by_cases h0 : s.size = 0
  · obtain rfl := empty_bs h0
    go_enter Tryd.func26, Tryd.ntmps26
    go_wp2_with fail
    go_ret
    exact ⟨rfl, Below.refl _ _⟩
  have hp0 : 0 < s.size := by omega
  have h0I : (0 : Int) < (s.size : Int) := by omega
  have hne : (s.toList != []) = true := by
    rw [bs_toList, bne_iff_ne]
    intro e
    have := bs_length s
    rw [e] at this
    simp at this; omega
  have hne2 : s.toList ≠ [] := by simpa using hne
  have hne3 : s.toList.isEmpty = false := by simpa using hne2
  have hne4 : (s.toList == []) = false := by simpa using hne2
  have hne5 : s ≠ ⟨#[]⟩ := by rintro rfl; exact hne2 (by rw [bs_toList]; rfl)
  have hne6 : s ≠ ByteArray.empty := hne5
  have HN := Lib.hid (name_eq hp0)
  have hq : ((mkB ((bs s).takeWhile Kx.alC)).toList == s.toList) = ((bs s).takeWhile Kx.alC == bs s) := by rw [bs_toList, bs_toList, bs_mk]
  have hs2 : s.size ≤ 1000000 := by omega
  go_enter Tryd.func26, Tryd.ntmps26
  go_wp2_with fail
  refine (letter_c _ _).mono ?_
  rintro e w1 ⟨rfl, rfl⟩
  cases hc : Kx.letC s[0] with
  | false =>
    go_wp2_with fail
    go_ret
    exact ⟨ret_bool (by rw [HN.out, hc]; rfl), Below.refl _ _⟩
  | true =>
    go_wp2_with fail
    refine (run_any s hs2 _).mono ?_
    rintro e w1 ⟨rfl, rfl⟩
    cases hz : ((bs s).takeWhile Kx.alC == bs s) with
    | false =>
      rw [hz] at hq
      go_wp2_with fail
      go_ret
      exact ⟨ret_bool (by rw [HN.out, hc, hz]; rfl), Below.refl _ _⟩
    | true =>
      rw [hz] at hq
      by_cases h12 : s.size ≤ 12
      · have h12I : (s.size : Int) ≤ 12 := by omega
        go_wp2_with fail
        refine (reserved_any s _ hT.sp).mono ?_
        rintro e w2 ⟨rfl, b⟩
        go_wp2_with fail
        go_ret
        exact ⟨ret_bool (by rw [HN.out, hc, hz, decide_eq_true h12]; rfl), b⟩
      · have h12I : ¬ (s.size : Int) ≤ 12 := by omega
        go_wp2_with fail
        go_ret
        exact ⟨ret_bool (by rw [HN.out, decide_eq_false h12]; simp), Below.refl _ _⟩
set_option maxRecDepth 100000 in
set_option maxHeartbeats 1000000 in
theorem risname_any (s : ByteArray) (hs : s.size ≤ 1000) (w : World) : Calls Tryd.prog 28 #[.string s] w fun e w' => e = .returned (.bool (Kx.nameB (bs s))) ∧ w = w' := by
  by_cases h0 : s.size = 0
  · obtain rfl := empty_bs h0
    go_enter Tryd.func28, Tryd.ntmps28
    go_wp2_with fail
    go_ret
    exact ⟨rfl, rfl⟩
  have hp0 : 0 < s.size := by omega
  have h0I : (0 : Int) < (s.size : Int) := by omega
  have h1I : ¬ (s.size : Int) < 1 := by omega
  have HN := Lib.hid (name_eq hp0)
  have hs2 : s.size ≤ 1000000 := by omega
  by_cases h12 : s.size ≤ 12
  · have h12I : ¬ (12 : Int) < (s.size : Int) := by omega
    go_enter Tryd.func28, Tryd.ntmps28
    go_wp2_with fail
    refine (rletter_c _ _).mono ?_
    rintro e w1 ⟨rfl, rfl⟩
    cases hc : Kx.letC s[0] with
    | false =>
      go_wp2_with fail
      go_ret
      exact ⟨ret_bool (by rw [HN.out, hc]; rfl), rfl⟩
    | true =>
      go_wp2_with fail
      refine (rreserved_any s hs2 _).mono ?_
      rintro e w1 ⟨rfl, rfl⟩
      cases hr : Kx.resB (bs s) with
      | true =>
        go_wp2_with fail
        go_ret
        exact ⟨ret_bool (by rw [HN.out, hr]; simp), rfl⟩
      | false =>
        have hrun := rrun_any s 0 hs2 (Nat.zero_le _)
        rw [List.drop_zero, Nat.zero_add] at hrun
        have hle := Kx.run_le (bs s)
        rw [bs_length] at hle
        have HZ : Hid ((((((bs s).takeWhile Kx.alC).length : Nat) : Int) == (s.size : Int)) = ((bs s).takeWhile Kx.alC == bs s)) := Lib.hid (by
          rw [Bool.eq_iff_iff, beq_iff_eq, beq_iff_eq, ← bs_length s]
          constructor
          · intro h; exact Kx.tw_all (by omega)
          · intro h; rw [h])
        revert hle HZ hrun
        generalize ((bs s).takeWhile Kx.alC).length = n
        intro hrun hle HZ
        go_wp2_with fail
        refine (hrun _).mono ?_
        rintro e w1 ⟨rfl, rfl⟩
        go_wp2_with fail
        go_ret
        refine ⟨ret_bool ?_, rfl⟩
        rw [HN.out, hc, hr, decide_eq_true h12, ← HZ.out]
        simp
  · have h12I : (12 : Int) < (s.size : Int) := by omega
    go_enter Tryd.func28, Tryd.ntmps28
    go_wp2_with fail
    go_ret
    exact ⟨ret_bool (by rw [HN.out, decide_eq_false h12]; simp), rfl⟩
end Go.Proofs.YtcckocaaoklibaaDoor
