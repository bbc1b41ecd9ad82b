/- Walks: IsName of the reference of package lexer. -/
import Derived.Test.YtlifnabeilnblaaGreatDoorIs
namespace Go.Proofs.YtlifnabeilnblaaGreatDoor
open Go.RowKit
set_option linter.unusedVariables false

theorem is_i {c : UInt8} {n : Int} (h : ((c.toNat : Nat) : Int) = n) : (((c.toNat : Nat) : Int) == n) = true := by rw [h]; exact beq_self_eq_true _
theorem no_i {c : UInt8} {n : Int} (h : ((c.toNat : Nat) : Int) ≠ n) : (((c.toNat : Nat) : Int) == n) = false := by rw [beq_eq_false_iff_ne]; exact h
theorem rletter_c (c : UInt8) (w : World) : Calls Tryz.prog 120 #[.int .u8 ((c.toNat : Nat) : Int)] w fun e w' => e = .returned (.bool (Kx.letC c)) ∧ w = w' := by
  by_cases h : 97 ≤ c.toNat
  · have h' : (97 : Int) ≤ ((c.toNat : Nat) : Int) := by omega
    have hr : Hid (decide (((c.toNat : Nat) : Int) ≤ 122) = Kx.letC c) := Lib.hid (by unfold Kx.letC; rw [decide_eq_true h, Bool.true_and, decide_eq_decide]; omega)
    go_enter Tryz.func120, Tryz.ntmps120
    go_wp2
    go_ret
    exact ⟨ret_bool hr.out, rfl⟩
  · have h' : ¬ (97 : Int) ≤ ((c.toNat : Nat) : Int) := by omega
    have hr : Hid (Kx.letC c = false) := Lib.hid (by unfold Kx.letC; rw [decide_eq_false h]; rfl)
    go_enter Tryz.func120, Tryz.ntmps120
    go_wp2
    go_ret
    exact ⟨ret_bool hr.out.symm, rfl⟩
theorem rdigit_c (c : UInt8) (w : World) : Calls Tryz.prog 132 #[.int .u8 ((c.toNat : Nat) : Int)] w fun e w' => e = .returned (.bool (Kx.digC c)) ∧ w = w' := by
  by_cases h : 48 ≤ c.toNat
  · have h' : (48 : Int) ≤ ((c.toNat : Nat) : Int) := by omega
    have hr : Hid (decide (((c.toNat : Nat) : Int) ≤ 57) = Kx.digC c) := Lib.hid (by unfold Kx.digC; rw [decide_eq_true h, Bool.true_and, decide_eq_decide]; omega)
    go_enter Tryz.func132, Tryz.ntmps132
    go_wp2
    go_ret
    exact ⟨ret_bool hr.out, rfl⟩
  · have h' : ¬ (48 : Int) ≤ ((c.toNat : Nat) : Int) := by omega
    have hr : Hid (Kx.digC c = false) := Lib.hid (by unfold Kx.digC; rw [decide_eq_false h]; rfl)
    go_enter Tryz.func132, Tryz.ntmps132
    go_wp2
    go_ret
    exact ⟨ret_bool hr.out.symm, rfl⟩

set_option maxRecDepth 100000 in
set_option maxHeartbeats 2000000 in
theorem rrun_any (s : ByteArray) (at_ : Nat) (hs : s.size ≤ 1000000) (hat : at_ ≤ s.size) (w : World) :
    Calls Tryz.prog 122 #[.string s, .int .i64 (at_ : Int)] w fun e w' => e = .returned (.int .i64 ((at_ + (((bs s).drop at_).takeWhile Kx.alC).length : Nat) : Int)) ∧ w = w' := by
  obtain ⟨R, hR⟩ : ∃ R, Hid (at_ + (((bs s).drop at_).takeWhile Kx.alC).length = R) := ⟨_, Lib.hid rfl⟩
  rw [hR.out]
  go_enter Tryz.func122, Tryz.ntmps122
  go_wp2_with fail
  go_loop [1] (fun kv => ∃ k : Nat, k ≤ s.size ∧ kv = .int .i64 (k : Int) ∧ Hid (k + (((bs s).drop k).takeWhile Kx.alC).length = R)) (fun kv => s.size - (intOf kv).toNat)
  case atStart => exact ⟨at_, hat, rfl, hR⟩
  case round =>
    obtain ⟨k, hk, rfl, hq⟩ := hrel
    by_cases hlt : k < s.size
    · have hltI : (k : Int) < (s.size : Int) := by omega
      have hd := drop_at hlt
      cases hl : Kx.letC s[k] with
      | true =>
        have HQ := Lib.hid (show k + 1 + (((bs s).drop (k + 1)).takeWhile Kx.alC).length = R by
          have := hq.out
          rw [hd, List.takeWhile_cons, if_pos (by unfold Kx.alC; rw [hl]; rfl), List.length_cons] at this
          omega)
        have HL := Lib.hid hl
        clear hl hd
        go_wp2_with fail
        refine (rletter_c _ _).mono ?_
        rintro e w' ⟨rfl, rfl⟩
        rw [HL.out]
        go_wp2_with fail
        go_round
        case rel => exact ⟨k + 1, by omega, by go_num, HQ⟩
        case measure => simp [intOf]; omega
      | false =>
        cases hg : Kx.digC s[k] with
        | true =>
          have HQ := Lib.hid (show k + 1 + (((bs s).drop (k + 1)).takeWhile Kx.alC).length = R by
            have := hq.out
            rw [hd, List.takeWhile_cons, if_pos (by unfold Kx.alC; rw [hg]; simp), List.length_cons] at this
            omega)
          have HL := Lib.hid hl
          have HG := Lib.hid hg
          clear hl hd hg
          go_wp2_with fail
          refine (rletter_c _ _).mono ?_
          rintro e w' ⟨rfl, rfl⟩
          rw [HL.out]
          go_wp2_with fail
          refine (rdigit_c _ _).mono ?_
          rintro e w' ⟨rfl, rfl⟩
          rw [HG.out]
          go_wp2_with fail
          go_round
          case rel => exact ⟨k + 1, by omega, by go_num, HQ⟩
          case measure => simp [intOf]; omega
        | false =>
          have HQ := Lib.hid (show k = R by
            have := hq.out
            rw [hd, List.takeWhile_cons, if_neg (by unfold Kx.alC; rw [hl, hg]; decide)] at this
            exact this)
          have HL := Lib.hid hl
          have HG := Lib.hid hg
          clear hl hd hg
          go_wp2_with fail
          refine (rletter_c _ _).mono ?_
          rintro e w' ⟨rfl, rfl⟩
          rw [HL.out]
          go_wp2_with fail
          refine (rdigit_c _ _).mono ?_
          rintro e w' ⟨rfl, rfl⟩
          rw [HG.out]
          go_wp2_with fail
          go_ret
          exact ⟨ret_int (by rw [HQ.out]), rfl⟩
    · have HQ := Lib.hid (show k = R by
        have := hq.out
        rw [List.drop_of_length_le (by rw [bs_length]; omega)] at this
        exact this)
      have hltI : ¬ (k : Int) < (s.size : Int) := by omega
      go_wp2_with fail
      go_ret
      exact ⟨ret_int (by rw [HQ.out]), rfl⟩


/-- the reference's words -/
def wordsS : ByteArray := ⟨#[32, 116, 121, 112, 101, 32, 115, 101, 99, 114, 101, 116, 32, 112, 117, 98, 108, 105, 99, 32, 114, 97, 110, 100, 111, 109, 32, 118, 97, 114, 32, 104, 97, 116, 99, 104, 32, 102, 117, 110, 99, 32, 114, 101, 116, 117, 114, 110, 32, 98, 101, 103, 105, 110, 32, 101, 110, 100, 32, 98, 111, 111, 108, 32, 105, 110, 116, 32, 97, 114, 114, 97, 121, 32, 111, 102, 32, 114, 101, 99, 111, 114, 100, 32, 116, 114, 117, 101, 32, 102, 97, 108, 115, 101, 32, 99, 97, 108, 108, 32, 114, 101, 108, 101, 97, 115, 101, 32, 111, 117, 116, 112, 117, 116, 32, 119, 97, 105, 116, 32, 105, 102, 32, 101, 108, 115, 101, 32, 119, 104, 105, 108, 101, 32, 108, 105, 109, 105, 116, 32, 102, 111, 114, 32, 116, 111, 32, 115, 101, 116, 116, 108, 101, 32, 109, 105, 110, 32, 109, 97, 120, 32]⟩
theorem bs_append (a b : ByteArray) : bs (a ++ b) = bs a ++ bs b := by unfold bs; rw [ByteArray.data_append, Array.toList_append]
namespace Kx
theorem res_to : (resW.all fun w => (List.range 162).any fun k => decide (k + w.length + 2 ≤ 162) && ((((bs wordsS).drop k).take (w.length + 2)) == 32 :: (w ++ [32]))) = true := by decide +kernel
theorem res_from : ((List.range 162).all fun k => ((bs wordsS).drop k).head? != some 32 || (((bs wordsS).drop (k + 1)).takeWhile letC).isEmpty || resW.contains (((bs wordsS).drop (k + 1)).takeWhile letC)) = true := by decide +kernel
theorem res_letters : (resW.all fun w => w.all letC && !w.isEmpty) = true := by decide +kernel
/-- does a word stand at k? -/
def atW (l : List UInt8) (k : Nat) : Prop := ((bs wordsS).drop k).take (l.length + 2) = 32 :: (l ++ [32])
theorem tw_app {l r : List UInt8} {c : UInt8} (h : l.all letC = true) (hc : letC c = false) : (l ++ c :: r).takeWhile letC = l := by
  rw [List.takeWhile_append_of_pos (fun a ha => List.all_eq_true.1 h a ha), List.takeWhile_cons, if_neg (by rw [hc]; decide), List.append_nil]
theorem res_iff {l : List UInt8} (h0 : l ≠ []) (hl : l.all letC = true) : resB l = true ↔ ∃ k, k + l.length + 2 ≤ 162 ∧ atW l k := by
  unfold resB atW
  rw [List.contains_iff_mem]
  constructor
  · intro h
    have := List.all_eq_true.1 res_to l h
    rw [List.any_eq_true] at this
    obtain ⟨k, _, hk⟩ := this
    rw [Bool.and_eq_true, decide_eq_true_eq, beq_iff_eq] at hk
    exact ⟨k, hk⟩
  · rintro ⟨k, hk, he⟩
    have hlen : (bs wordsS).length = 162 := by decide +kernel
    have hc := List.all_eq_true.1 res_from k (List.mem_range.2 (by omega))
    have hd : (bs wordsS).drop k = (bs wordsS)[k]'(by omega) :: (bs wordsS).drop (k + 1) := List.drop_eq_getElem_cons (by omega)
    rw [hd] at he hc
    rw [show l.length + 2 = (l.length + 1) + 1 from rfl, List.take_succ_cons] at he
    injection he with e1 e2
    have e3 : (bs wordsS).drop (k + 1) = l ++ 32 :: ((bs wordsS).drop (k + 1)).drop (l.length + 1) := by
      conv => lhs; rw [← List.take_append_drop (l.length + 1) ((bs wordsS).drop (k + 1)), e2]
      simp
    have e4 : ((bs wordsS).drop (k + 1)).takeWhile letC = l := by rw [e3]; exact tw_app hl (by decide)
    rw [e4, e1] at hc
    simp only [List.head?_cons, bne_self_eq_false, Bool.false_or, Bool.or_eq_true, List.isEmpty_iff, List.contains_iff_mem] at hc
    rcases hc with hc | hc
    · exact absurd hc h0
    · exact hc
theorem res_no {l : List UInt8} (h : l = [] ∨ l.all letC = false) : resB l = false := by
  cases q : resB l with
  | false => rfl
  | true =>
    unfold resB at q
    rw [List.contains_iff_mem] at q
    have := List.all_eq_true.1 res_letters l q
    rw [Bool.and_eq_true] at this
    rcases h with rfl | h
    · simp at this
    · rw [h] at this; simp at this
end Kx
theorem word_eq (s : ByteArray) (k : Nat) : ((wordsS.extract k (k + s.size + 2)).toList == ((⟨#[32]⟩ : ByteArray) ++ s ++ ⟨#[32]⟩).toList) = true ↔ Kx.atW (bs s) k := by
  rw [beq_iff_eq, bs_toList, bs_toList, bs_append, bs_append, bs_extract]
  unfold Kx.atW
  rw [bs_length, List.drop_take, show k + s.size + 2 - k = s.size + 2 by omega]
  exact Iff.rfl

set_option maxRecDepth 100000 in
set_option maxHeartbeats 4000000 in
theorem rreserved_any (s : ByteArray) (hs : s.size ≤ 1000000) (w : World) :
    Calls Tryz.prog 121 #[.string s] w fun e w' => e = .returned (.bool (Kx.resB (bs s))) ∧ w = w' := by
  by_cases h0 : s.size = 0
  · have HR := Lib.hid (Kx.res_no (l := bs s) (.inl (by
      have := bs_length s
      rw [h0] at this
      exact List.length_eq_zero_iff.1 this)))
    have h0I : ((s.size : Int) == 0) = true := by rw [h0]; rfl
    clear h0
    go_enter Tryz.func121, Tryz.ntmps121
    go_wp2_with fail
    go_ret
    exact ⟨ret_bool HR.out.symm, rfl⟩
  have h0I : ((s.size : Int) == 0) = false := by rw [beq_eq_false_iff_ne]; omega
  have hne : Hid (bs s ≠ []) := Lib.hid (fun e => by have := bs_length s; rw [e] at this; simp at this; omega)
  clear h0
  go_enter Tryz.func121, Tryz.ntmps121
  go_wp2_with fail
  go_loop [3] (fun kv => ∃ k : Nat, k ≤ s.size ∧ kv = .int .i64 (k : Int) ∧ Hid (∀ j, (hj : j < k) → ∀ hs : j < s.size, Kx.letC s[j] = true)) (fun kv => s.size - (intOf kv).toNat)
  case atStart => exact ⟨0, Nat.zero_le _, rfl, Lib.hid fun j hj => by omega⟩
  case round =>
    obtain ⟨k, hk, rfl, hok⟩ := hrel
    by_cases hlt : k < s.size
    · have hltI : (k : Int) < (s.size : Int) := by omega
      cases hd : Kx.letC s[k] with
      | true =>
        have HD := Lib.hid hd
        clear hd
        go_wp2_with fail
        refine (rletter_c _ _).mono ?_
        rintro e w' ⟨rfl, rfl⟩
        rw [HD.out]
        go_wp2_with fail
        go_round
        case rel => exact ⟨k + 1, by omega, by go_num, Lib.hid fun j hj hs => by
          by_cases e : j = k
          · subst e; exact HD.out
          · exact hok.out j (by omega) hs⟩
        case measure => simp [intOf]; omega
      | false =>
        have HD := Lib.hid hd
        have HR := Lib.hid (Kx.res_no (l := bs s) (.inr (by
          rw [List.all_eq_false]
          exact ⟨s[k], by rw [← get_at hlt]; exact List.getElem_mem _, by rw [hd]; decide⟩)))
        clear hd
        go_wp2_with fail
        refine (rletter_c _ _).mono ?_
        rintro e w' ⟨rfl, rfl⟩
        rw [HD.out]
        go_wp2_with fail
        go_ret
        exact ⟨ret_bool HR.out.symm, rfl⟩
    · obtain rfl : k = s.size := by omega
      have hall : (bs s).all Kx.letC = true := by
        rw [List.all_eq_true]
        intro c hc
        obtain ⟨j, hj, rfl⟩ := List.getElem_of_mem hc
        rw [bs_length] at hj
        exact hok.out j hj hj
      have HIF := Lib.hid (Kx.res_iff hne.out hall)
      clear hall
      go_wp2_with fail
      go_loop [4] (fun kv => ∃ k : Nat, kv = .int .i64 (k : Int) ∧ k ≤ 162 ∧ Hid (∀ j, j < k → ¬ Kx.atW (bs s) j)) (fun kv => 162 - (intOf kv).toNat)
      case atStart => exact ⟨0, rfl, by omega, Lib.hid fun j hj => by omega⟩
      case round =>
        obtain ⟨k, rfl, hk1, hno⟩ := hrel
        by_cases hlt : k + s.size + 2 ≤ 162
        · have hltI : (k : Int) + (s.size : Int) + 2 ≤ 162 := by omega
          go_wp2_with fail
          · rename_i hx _
            have hx2 := (word_eq s k).1 hx
            have HR := Lib.hid (HIF.out.2 ⟨k, by rw [bs_length]; exact hlt, hx2⟩)
            go_ret
            exact ⟨ret_bool HR.out.symm, rfl⟩
          · rename_i hx
            have HX := Lib.hid (fun q => by
              have := (word_eq s k).2 q
              exact absurd (hx.symm.trans this) (by decide) : ¬ Kx.atW (bs s) k)
            go_round
            case rel => exact ⟨k + 1, by go_num, by omega, Lib.hid fun j hj => by
              by_cases e : j = k
              · subst e; exact HX.out
              · exact hno.out j (by omega)⟩
            case measure => simp [intOf]; omega
        · have hltI : ¬ (k : Int) + (s.size : Int) + 2 ≤ 162 := by omega
          have HR : Hid (Kx.resB (bs s) = false) := Lib.hid (by
            cases q : Kx.resB (bs s) with
            | false => rfl
            | true =>
              obtain ⟨j, hj, ha⟩ := HIF.out.1 q
              rw [bs_length] at hj
              exact absurd ha (hno.out j (by omega)))
          go_wp2_with fail
          go_ret
          exact ⟨ret_bool HR.out.symm, rfl⟩

set_option maxRecDepth 100000 in
set_option maxHeartbeats 1000000 in
theorem risname_any (s : ByteArray) (w : World) : Calls Tryz.prog 97 #[.string s] w fun e w' => e = .returned (.bool (Kx.nameB (bs s))) ∧ w = w' := by
  by_cases h0 : s.size = 0
  · obtain rfl := empty_bs h0
    go_enter Tryz.func97, Tryz.ntmps97
    go_wp2_with fail
    go_ret
    exact ⟨rfl, rfl⟩
  have hp0 : 0 < s.size := by omega
  have h0I : (0 : Int) < (s.size : Int) := by omega
  have h1I : ¬ (s.size : Int) < 1 := by omega
  have HN := Lib.hid (name_eq hp0)
  by_cases h12 : s.size ≤ 12
  · have h12I : ¬ (12 : Int) < (s.size : Int) := by omega
    have hs2 : s.size ≤ 1000000 := by omega
    go_enter Tryz.func97, Tryz.ntmps97
    go_wp2_with fail
    refine (rletter_c _ _).mono ?_
    rintro e w1 ⟨rfl, rfl⟩
    cases hc : Kx.letC s[0] with
    | false =>
      go_wp2_with fail
      go_ret
      exact ⟨ret_bool (by rw [HN.out, hc]; rfl), rfl⟩
    | true =>
      go_wp2_with fail
      refine (rreserved_any s hs2 _).mono ?_
      rintro e w1 ⟨rfl, rfl⟩
      cases hr : Kx.resB (bs s) with
      | true =>
        go_wp2_with fail
        go_ret
        exact ⟨ret_bool (by rw [HN.out, hr]; simp), rfl⟩
      | false =>
        have hrun := rrun_any s 0 hs2 (Nat.zero_le _)
        rw [List.drop_zero, Nat.zero_add] at hrun
        have hle := Kx.run_le (bs s)
        rw [bs_length] at hle
        have HZ : Hid ((((((bs s).takeWhile Kx.alC).length : Nat) : Int) == (s.size : Int)) = ((bs s).takeWhile Kx.alC == bs s)) := Lib.hid (by
          rw [Bool.eq_iff_iff, beq_iff_eq, beq_iff_eq, ← bs_length s]
          constructor
          · intro h; exact Kx.tw_all (by omega)
          · intro h; rw [h])
        revert hle HZ hrun
        generalize ((bs s).takeWhile Kx.alC).length = n
        intro hrun hle HZ
        go_wp2_with fail
        refine (hrun _).mono ?_
        rintro e w1 ⟨rfl, rfl⟩
        go_wp2_with fail
        go_ret
        refine ⟨ret_bool ?_, rfl⟩
        rw [HN.out, hc, hr, decide_eq_true h12, ← HZ.out]
        simp
  · have h12I : (12 : Int) < (s.size : Int) := by omega
    go_enter Tryz.func97, Tryz.ntmps97
    go_wp2_with fail
    go_ret
    exact ⟨ret_bool (by rw [HN.out, decide_eq_false h12]; simp), rfl⟩
end Go.Proofs.YtlifnabeilnblaaGreatDoor
