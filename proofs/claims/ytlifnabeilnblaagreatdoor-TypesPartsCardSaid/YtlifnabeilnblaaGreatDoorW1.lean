/- Walks: bytes, skip, run and sign of package lexer. -/
import Derived.Test.YtlifnabeilnblaaGreatDoorChecked
import Derived.Test.YtlifnabeilnblaaGreatDoorMath
import Derived.WalkKit
import Derived.WalkSpells
import Derived.WalkLawsBesides
import Derived.Lib.Hide
import Derived.Deep.Draws
import Derived.Outline
import Derived.Deep.QuietTactic
import Derived.BigQuiet
import Derived.Deep.DeepFit
namespace Go.Proofs.YtlifnabeilnblaaGreatDoor
open Go.RowKit
set_option linter.unusedVariables false

/-- the bytes of a text -/
def bs (s : ByteArray) : List UInt8 := s.data.toList
/-- the text of bytes -/
def mkB (l : List UInt8) : ByteArray := ⟨l.toArray⟩
theorem bs_mk (l : List UInt8) : bs (mkB l) = l := by simp [bs, mkB]
theorem mk_bs (s : ByteArray) : mkB (bs s) = s := by simp [bs, mkB]
theorem bs_inj {s t : ByteArray} (h : bs s = bs t) : s = t := by rw [← mk_bs s, ← mk_bs t, h]
theorem mk_size (l : List UInt8) : (mkB l).size = l.length := by show l.toArray.size = l.length; simp
theorem bs_length (s : ByteArray) : (bs s).length = s.size := by show s.data.toList.length = s.data.size; simp
theorem bs_toList (s : ByteArray) : s.toList = bs s := ByteArray.toList_eq s
theorem bs_extract (s : ByteArray) (a b : Nat) : bs (s.extract a b) = ((bs s).take b).drop a := by
  unfold bs
  rw [ByteArray.data_extract, Array.toList_extract, List.extract_eq_take_drop, List.drop_take]
theorem ext_from (s : ByteArray) (a : Nat) : s.extract a s.size = mkB ((bs s).drop a) := bs_inj (by rw [bs_mk, bs_extract, List.take_of_length_le (by rw [bs_length]; exact Nat.le_refl _)])
theorem ext_to (s : ByteArray) (b : Nat) : s.extract 0 b = mkB ((bs s).take b) := bs_inj (by rw [bs_mk, bs_extract, List.drop_zero])
theorem drop_at {s : ByteArray} {k : Nat} (h : k < s.size) : (bs s).drop k = s[k] :: (bs s).drop (k + 1) := by
  rw [List.drop_eq_getElem_cons (by rw [bs_length]; exact h)]; rfl
theorem get_at {s : ByteArray} {k : Nat} (h : k < s.size) : (bs s)[k]'(by rw [bs_length]; exact h) = s[k] := rfl
theorem ret_int {k : IntKind} {a b : Int} (h : a = b) : Ending.returned (.int k a) = .returned (.int k b) := by rw [h]
theorem ret_bool {a b : Bool} (h : a = b) : Ending.returned (.bool a) = .returned (.bool b) := by rw [h]
theorem ret_str {a b : ByteArray} (h : a = b) : Ending.returned (.string a) = .returned (.string b) := by rw [h]
theorem bDrew {B : Nat} {a w : World} (h : Below B a w) (n : Nat) : Below B a (w.drewN n) := ⟨h.os, h.tape, h.output, h.size, h.block⟩
theorem al1 (w : World) (o : Obj) : Below w.heap.size w (w.alloc o) := (Below.refl _ _).alloc (Nat.le_refl _) o
theorem bTrans {w w1 w2 : World} (h : Below w.heap.size w w1) (h2 : Below w1.heap.size w1 w2) : Below w.heap.size w w2 := h.trans (h2.mono h.size)
/-- a byte's test, in the walk's words -/
theorem is_b {c : UInt8} {n : Nat} (h : c.toNat = n) : (((c.toNat : Nat) : Int) == (n : Int)) = true := by rw [h]; exact beq_self_eq_true _
theorem no_b {c : UInt8} {n : Nat} (h : c.toNat ≠ n) : (((c.toNat : Nat) : Int) == (n : Int)) = false := by rw [beq_eq_false_iff_ne]; omega

theorem letter_c (c : UInt8) (w : World) : Calls Tryz.prog 90 #[.int .u8 ((c.toNat : Nat) : Int)] w fun e w' => e = .returned (.bool (Kx.letC c)) ∧ w = w' := by
  by_cases h : 97 ≤ c.toNat
  · have h' : (97 : Int) ≤ ((c.toNat : Nat) : Int) := by omega
    have hr : Hid (decide (((c.toNat : Nat) : Int) ≤ 122) = Kx.letC c) := Lib.hid (by unfold Kx.letC; rw [decide_eq_true h, Bool.true_and, decide_eq_decide]; omega)
    go_enter Tryz.func90, Tryz.ntmps90
    go_wp2
    go_ret
    exact ⟨ret_bool hr.out, rfl⟩
  · have h' : ¬ (97 : Int) ≤ ((c.toNat : Nat) : Int) := by omega
    have hr : Hid (Kx.letC c = false) := Lib.hid (by unfold Kx.letC; rw [decide_eq_false h]; rfl)
    go_enter Tryz.func90, Tryz.ntmps90
    go_wp2
    go_ret
    exact ⟨ret_bool hr.out.symm, rfl⟩
theorem digit_c (c : UInt8) (w : World) : Calls Tryz.prog 113 #[.int .u8 ((c.toNat : Nat) : Int)] w fun e w' => e = .returned (.bool (Kx.digC c)) ∧ w = w' := by
  by_cases h : 48 ≤ c.toNat
  · have h' : (48 : Int) ≤ ((c.toNat : Nat) : Int) := by omega
    have hr : Hid (decide (((c.toNat : Nat) : Int) ≤ 57) = Kx.digC c) := Lib.hid (by unfold Kx.digC; rw [decide_eq_true h, Bool.true_and, decide_eq_decide]; omega)
    go_enter Tryz.func113, Tryz.ntmps113
    go_wp2
    go_ret
    exact ⟨ret_bool hr.out, rfl⟩
  · have h' : ¬ (48 : Int) ≤ ((c.toNat : Nat) : Int) := by omega
    have hr : Hid (Kx.digC c = false) := Lib.hid (by unfold Kx.digC; rw [decide_eq_false h]; rfl)
    go_enter Tryz.func113, Tryz.ntmps113
    go_wp2
    go_ret
    exact ⟨ret_bool hr.out.symm, rfl⟩

namespace Kx
theorem tw_take (l : List UInt8) : l.take (l.takeWhile alC).length = l.takeWhile alC := by
  obtain ⟨t, ht⟩ := List.takeWhile_prefix alC (l := l)
  conv => lhs; arg 2; rw [← ht]
  rw [List.take_left]
theorem tw_take_all {l : List UInt8} {k : Nat} (hk : k ≤ l.length) (h : ∀ j, (hj : j < k) → alC (l[j]'(by omega)) = true) (h2 : ∀ hk2 : k < l.length, alC (l[k]'hk2) = false) : l.takeWhile alC = l.take k := by
  induction l generalizing k with
  | nil => simp
  | cons c l ih =>
    cases k with
    | zero =>
      have := h2 (by simp)
      rw [List.takeWhile_cons, if_neg (by simpa using this)]; rfl
    | succ k =>
      have h0 := h 0 (by omega)
      rw [List.takeWhile_cons, if_pos (by simpa using h0), List.take_succ_cons]
      congr 1
      refine ih (by simpa using hk) (fun j hj => ?_) (fun hk2 => ?_)
      · have := h (j + 1) (by omega); simpa using this
      · have := h2 (by simpa using hk2); simpa using this
end Kx
set_option maxRecDepth 100000 in
set_option maxHeartbeats 2000000 in
theorem run_any (s : ByteArray) (hs : s.size ≤ 9223372036854775807) (w : World) :
    Calls Tryz.prog 91 #[.string s] w fun e w' => e = .returned (.string (mkB ((bs s).takeWhile Kx.alC))) ∧ w = w' := by
  go_enter Tryz.func91, Tryz.ntmps91
  go_wp2_with fail
  go_loop [6] (fun kv => ∃ k : Nat, k ≤ s.size ∧ kv = .int .i64 (k : Int) ∧ Hid (∀ j, (hj : j < k) → ∀ hs : j < s.size, Kx.alC s[j] = true)) (fun kv => s.size - (intOf kv).toNat)
  case atStart => exact ⟨0, Nat.zero_le _, rfl, Lib.hid fun j hj => by omega⟩
  case round =>
    obtain ⟨k, hk, rfl, hok⟩ := hrel
    by_cases hlt : k < s.size
    · have hltI : (k : Int) < (s.size : Int) := by omega
      cases hl : Kx.letC s[k] with
      | true =>
        have HL := Lib.hid hl
        clear hl
        go_wp2_with fail
        refine (letter_c _ _).mono ?_
        rintro e w' ⟨rfl, rfl⟩
        rw [HL.out]
        go_wp2_with fail
        go_round
        case rel => exact ⟨k + 1, by omega, by go_num, Lib.hid fun j hj hs => by
          by_cases e : j = k
          · subst e; unfold Kx.alC; rw [HL.out]; rfl
          · exact hok.out j (by omega) hs⟩
        case measure => simp [intOf]; omega
      | false =>
        cases hd : Kx.digC s[k] with
        | true =>
          have HL := Lib.hid hl
          have HD := Lib.hid hd
          clear hl hd
          go_wp2_with fail
          refine (letter_c _ _).mono ?_
          rintro e w' ⟨rfl, rfl⟩
          rw [HL.out]
          go_wp2_with fail
          refine (digit_c _ _).mono ?_
          rintro e w' ⟨rfl, rfl⟩
          rw [HD.out]
          go_wp2_with fail
          go_round
          case rel => exact ⟨k + 1, by omega, by go_num, Lib.hid fun j hj hs => by
            by_cases e : j = k
            · subst e; unfold Kx.alC; rw [HD.out, Bool.or_true]
            · exact hok.out j (by omega) hs⟩
          case measure => simp [intOf]; omega
        | false =>
          have HL := Lib.hid hl
          have HD := Lib.hid hd
          have HR := Lib.hid (show s.extract 0 k = mkB ((bs s).takeWhile Kx.alC) by
            rw [ext_to, Kx.tw_take_all (l := bs s) (k := k) (by rw [bs_length]; omega) (fun j hj => hok.out j hj (by omega)) (fun hk2 => by rw [get_at hlt]; unfold Kx.alC; rw [hl, hd]; rfl)])
          clear hl hd
          go_wp2_with fail
          refine (letter_c _ _).mono ?_
          rintro e w' ⟨rfl, rfl⟩
          rw [HL.out]
          go_wp2_with fail
          refine (digit_c _ _).mono ?_
          rintro e w' ⟨rfl, rfl⟩
          rw [HD.out]
          go_wp2_with fail
          go_ret
          exact ⟨ret_str HR.out, rfl⟩
    · obtain rfl : k = s.size := by omega
      have HR := Lib.hid (show s = mkB ((bs s).takeWhile Kx.alC) by
        rw [Kx.tw_take_all (l := bs s) (k := s.size) (by rw [bs_length]; omega) (fun j hj => hok.out j hj (by omega)) (fun hk2 => by rw [bs_length] at hk2; omega), List.take_of_length_le (by rw [bs_length]; omega), mk_bs])
      go_wp2_with fail
      go_ret
      exact ⟨ret_str HR.out, rfl⟩
end Go.Proofs.YtlifnabeilnblaaGreatDoor
