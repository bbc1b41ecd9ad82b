/- Walks: isLetter, isDigit, isName and the reference's IsName. -/
import Derived.Test.YtcckocaaoklibaaChecked
import Derived.Test.YtcckocaaoklibaaOwn
import Derived.Outline
import Derived.Deep.QuietTactic
import Derived.BigQuiet
import Derived.Deep.DeepFit
namespace Go.Proofs.Ytcckocaaoklibaa
open Go.RowKit
set_option linter.unusedVariables false

/-- a byte of a text -/
def byteAt (s : ByteArray) (k : Nat) : Int := if h : k < s.size then ((s[k].toNat : Nat) : Int) else 0
theorem byteAt_eq {s : ByteArray} {k : Nat} (h : k < s.size) : ((s[k].toNat : Nat) : Int) = byteAt s k := by unfold byteAt; rw [dif_pos h]
def letB (n : Int) : Bool := decide (97 ≤ n) && decide (n ≤ 122)
def digB (n : Int) : Bool := decide (48 ≤ n) && decide (n ≤ 57)
/-- may a level have this name? -/
def nameB (s : ByteArray) : Bool := decide (0 < s.size) && decide (s.size ≤ 12) && letB (byteAt s 0) && (List.range s.size).all fun k => k == 0 || letB (byteAt s k) || digB (byteAt s k)
theorem nameB_yes {s : ByteArray} (h0 : 0 < s.size) (h1 : s.size ≤ 12) (h2 : letB (byteAt s 0) = true) (h3 : ∀ k, 0 < k → k < s.size → (letB (byteAt s k) || digB (byteAt s k)) = true) : nameB s = true := by
  unfold nameB
  simp only [h0, h1, h2, decide_true, Bool.true_and, List.all_eq_true, List.mem_range]
  intro k hk
  by_cases e : k = 0
  · subst e; rfl
  · rw [Bool.or_assoc, h3 k (by omega) hk, Bool.or_true]
theorem nameB_empty {s : ByteArray} (h : s.size = 0) : nameB s = false := by unfold nameB; simp [h]
theorem nameB_long {s : ByteArray} (h : 12 < s.size) : nameB s = false := by unfold nameB; rw [show decide (s.size ≤ 12) = false by simp; omega]; simp
theorem nameB_first {s : ByteArray} (h : letB (byteAt s 0) = false) : nameB s = false := by unfold nameB; rw [h]; simp
theorem nameB_at {s : ByteArray} {k : Nat} (h0 : 0 < k) (hk : k < s.size) (h1 : letB (byteAt s k) = false) (h2 : digB (byteAt s k) = false) : nameB s = false := by
  cases h : nameB s with
  | false => rfl
  | true =>
    unfold nameB at h
    simp only [Bool.and_eq_true, List.all_eq_true, List.mem_range] at h
    have := h.2 k hk
    rw [h1, h2] at this
    simp at this; omega
theorem empty_yes {s : ByteArray} (h : s.size = 0) : s.toList.isEmpty = true := by
  rw [ByteArray.toList_eq]
  have : s.data.size = 0 := h
  rw [Array.size_eq_zero_iff] at this
  rw [this]; rfl
theorem empty_no {s : ByteArray} (h : 0 < s.size) : s.toList.isEmpty = false := by
  rw [ByteArray.toList_eq]
  have h' : 0 < s.data.size := h
  cases hl : s.data.toList with
  | nil => rw [← Array.length_toList, hl] at h'; exact absurd h' (by simp)
  | cons _ _ => rfl

theorem letter_any (n : Int) (w : World) : Calls Try.prog 31 #[.int .u8 n] w fun e w' => e = .returned (.bool (letB n)) ∧ w = w' := by
  unfold letB
  by_cases h : 97 ≤ n
  · go_enter Try.func31, Try.ntmps31
    go_wp2
    go_ret
    exact ⟨by simp [h], rfl⟩
  · go_enter Try.func31, Try.ntmps31
    go_wp2
    go_ret
    exact ⟨ret_bool (by rw [decide_eq_false (by omega : ¬ 97 ≤ n)]; rfl), rfl⟩
theorem digit_any (n : Int) (w : World) : Calls Try.prog 32 #[.int .u8 n] w fun e w' => e = .returned (.bool (digB n)) ∧ w = w' := by
  unfold digB
  by_cases h : 48 ≤ n
  · go_enter Try.func32, Try.ntmps32
    go_wp2
    go_ret
    exact ⟨by simp [h], rfl⟩
  · go_enter Try.func32, Try.ntmps32
    go_wp2
    go_ret
    exact ⟨ret_bool (by rw [decide_eq_false (by omega : ¬ 48 ≤ n)]; rfl), rfl⟩
/-- is i one of n levels? -/
def lvB (i n : Int) : Bool := decide (0 ≤ i) && decide (i < n)
theorem level_any (i n : Int) (w : World) : Calls Try.prog 18 #[.int .i64 i, .int .i64 n] w fun e w' => e = .returned (.bool (lvB i n)) ∧ w = w' := by
  unfold lvB
  by_cases h : 0 ≤ i
  · go_enter Try.func18, Try.ntmps18
    go_wp2
    go_ret
    exact ⟨by simp [h], rfl⟩
  · go_enter Try.func18, Try.ntmps18
    go_wp2
    go_ret
    exact ⟨ret_bool (by rw [decide_eq_false (by omega : ¬ 0 ≤ i)]; rfl), rfl⟩

set_option maxRecDepth 100000 in
set_option maxHeartbeats 1000000 in
theorem isName_any (s : ByteArray) (w : World) : Calls Try.prog 28 #[.string s] w fun e w' => e = .returned (.bool (nameB s)) ∧ w = w' := by
  by_cases h0 : s.size = 0
  · have he := empty_yes h0
    have hR := Lib.hid (nameB_empty h0)
    have h0' := Lib.hid h0
    clear h0
    go_enter Try.func28, Try.ntmps28
    go_wp2_with fail
    go_ret
    exact ⟨ret_bool hR.out.symm, rfl⟩
  have he := empty_no (s := s) (by omega)
  by_cases h1 : 12 < s.size
  · have hR := Lib.hid (nameB_long h1)
    have h1' : (12 : Int) < (s.size : Int) := by omega
    go_enter Try.func28, Try.ntmps28
    go_wp2_with fail
    go_ret
    exact ⟨ret_bool hR.out.symm, rfl⟩
  have h1' : ¬ (12 : Int) < (s.size : Int) := by omega
  have hp : 0 < s.size := by omega
  have e0 := Lib.hid (byteAt_eq hp)
  cases hl : letB (byteAt s 0) with
  | false =>
    have hR := Lib.hid (nameB_first hl)
    have HL := Lib.hid hl
    clear hl
    go_enter Try.func28, Try.ntmps28
    go_wp2_with fail
    refine (letter_any _ _).mono ?_
    rintro e w' ⟨rfl, rfl⟩
    rw [e0.out, HL.out]
    go_wp2_with fail
    go_ret
    exact ⟨ret_bool hR.out.symm, rfl⟩
  | true =>
    have HL := Lib.hid hl
    clear hl
    go_enter Try.func28, Try.ntmps28
    go_wp2_with fail
    refine (letter_any _ _).mono ?_
    rintro e w' ⟨rfl, rfl⟩
    rw [e0.out, HL.out]
    go_wp2_with fail
    go_loop [3] (fun kv => ∃ k : Nat, 0 < k ∧ k ≤ s.size ∧ kv = .int .i64 k ∧ Hid (∀ j, 0 < j → j < k → (letB (byteAt s j) || digB (byteAt s j)) = true)) (fun kv => s.size - (intOf kv).toNat)
    case atStart => exact ⟨1, by decide, by omega, rfl, Lib.hid fun j a b => by omega⟩
    case round =>
      obtain ⟨k, hk0, hk, rfl, hok⟩ := hrel
      by_cases hlt : k < s.size
      · have ek := Lib.hid (byteAt_eq hlt)
        have hltI : (k : Int) < (s.size : Int) := by omega
        cases hlk : letB (byteAt s k) with
        | true =>
          have HK := Lib.hid hlk
          clear hlk
          go_wp2_with fail
          refine (letter_any _ _).mono ?_
          rintro e w' ⟨rfl, rfl⟩
          rw [ek.out, HK.out]
          go_wp2_with fail
          go_round
          case rel => exact ⟨k + 1, by omega, by omega, by go_num, Lib.hid fun j a b => by
            by_cases e : j = k
            · rw [e, HK.out]; rfl
            · exact hok.out j a (by omega)⟩
          case measure => simp [intOf]; omega
        | false =>
          cases hdk : digB (byteAt s k) with
          | true =>
            have HK := Lib.hid hlk
            have HD := Lib.hid hdk
            clear hlk hdk
            go_wp2_with fail
            refine (letter_any _ _).mono ?_
            rintro e w' ⟨rfl, rfl⟩
            rw [ek.out, HK.out]
            go_wp2_with fail
            refine (digit_any _ _).mono ?_
            rintro e w' ⟨rfl, rfl⟩
            rw [ek.out, HD.out]
            go_wp2_with fail
            go_round
            case rel => exact ⟨k + 1, by omega, by omega, by go_num, Lib.hid fun j a b => by
              by_cases e : j = k
              · rw [e, HD.out, Bool.or_true]
              · exact hok.out j a (by omega)⟩
            case measure => simp [intOf]; omega
          | false =>
            have hR := Lib.hid (nameB_at hk0 hlt hlk hdk)
            have HK := Lib.hid hlk
            have HD := Lib.hid hdk
            clear hlk hdk
            go_wp2_with fail
            refine (letter_any _ _).mono ?_
            rintro e w' ⟨rfl, rfl⟩
            rw [ek.out, HK.out]
            go_wp2_with fail
            refine (digit_any _ _).mono ?_
            rintro e w' ⟨rfl, rfl⟩
            rw [ek.out, HD.out]
            go_wp2_with fail
            go_ret
            exact ⟨ret_bool hR.out.symm, rfl⟩
      · have hltI : ¬ (k : Int) < (s.size : Int) := by omega
        have hR := Lib.hid (nameB_yes hp (by omega) HL.out (fun j a b => hok.out j a (by omega)))
        go_wp2_with fail
        go_ret
        exact ⟨ret_bool hR.out.symm, rfl⟩
end Go.Proofs.Ytcckocaaoklibaa
