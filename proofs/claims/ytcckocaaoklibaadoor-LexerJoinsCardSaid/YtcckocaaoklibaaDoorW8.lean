/- Walks: the reference's letter, digit, run, blank, isSign and number. -/
import Derived.Test.YtcckocaaoklibaaDoorW7
namespace Go.Proofs.YtcckocaaoklibaaDoor
open Go.RowKit
set_option linter.unusedVariables false

theorem is_i {c : UInt8} {n : Int} (h : ((c.toNat : Nat) : Int) = n) : (((c.toNat : Nat) : Int) == n) = true := by rw [h]; exact beq_self_eq_true _
theorem no_i {c : UInt8} {n : Int} (h : ((c.toNat : Nat) : Int) ≠ n) : (((c.toNat : Nat) : Int) == n) = false := by rw [beq_eq_false_iff_ne]; exact h
theorem rletter_c (c : UInt8) (w : World) : Calls Tryd.prog 57 #[.int .u8 ((c.toNat : Nat) : Int)] w fun e w' => e = .returned (.bool (Kx.letC c)) ∧ w = w' := by
  by_cases h : 97 ≤ c.toNat
  · have h' : (97 : Int) ≤ ((c.toNat : Nat) : Int) := by omega
    have hr : Hid (decide (((c.toNat : Nat) : Int) ≤ 122) = Kx.letC c) := Lib.hid (by unfold Kx.letC; rw [decide_eq_true h, Bool.true_and, decide_eq_decide]; omega)
    go_enter Tryd.func57, Tryd.ntmps57
    go_wp2
    go_ret
    exact ⟨ret_bool hr.out, rfl⟩
  · have h' : ¬ (97 : Int) ≤ ((c.toNat : Nat) : Int) := by omega
    have hr : Hid (Kx.letC c = false) := Lib.hid (by unfold Kx.letC; rw [decide_eq_false h]; rfl)
    go_enter Tryd.func57, Tryd.ntmps57
    go_wp2
    go_ret
    exact ⟨ret_bool hr.out.symm, rfl⟩
theorem rdigit_c (c : UInt8) (w : World) : Calls Tryd.prog 76 #[.int .u8 ((c.toNat : Nat) : Int)] w fun e w' => e = .returned (.bool (Kx.digC c)) ∧ w = w' := by
  by_cases h : 48 ≤ c.toNat
  · have h' : (48 : Int) ≤ ((c.toNat : Nat) : Int) := by omega
    have hr : Hid (decide (((c.toNat : Nat) : Int) ≤ 57) = Kx.digC c) := Lib.hid (by unfold Kx.digC; rw [decide_eq_true h, Bool.true_and, decide_eq_decide]; omega)
    go_enter Tryd.func76, Tryd.ntmps76
    go_wp2
    go_ret
    exact ⟨ret_bool hr.out, rfl⟩
  · have h' : ¬ (48 : Int) ≤ ((c.toNat : Nat) : Int) := by omega
    have hr : Hid (Kx.digC c = false) := Lib.hid (by unfold Kx.digC; rw [decide_eq_false h]; rfl)
    go_enter Tryd.func76, Tryd.ntmps76
    go_wp2
    go_ret
    exact ⟨ret_bool hr.out.symm, rfl⟩

set_option maxRecDepth 100000 in
set_option maxHeartbeats 2000000 in
theorem rrun_any (s : ByteArray) (at_ : Nat) (hs : s.size ≤ 1000000) (hat : at_ ≤ s.size) (w : World) :
    Calls Tryd.prog 58 #[.string s, .int .i64 (at_ : Int)] w fun e w' => e = .returned (.int .i64 ((at_ + (((bs s).drop at_).takeWhile Kx.alC).length : Nat) : Int)) ∧ w = w' := by
  obtain ⟨R, hR⟩ : ∃ R, Hid (at_ + (((bs s).drop at_).takeWhile Kx.alC).length = R) := ⟨_, Lib.hid rfl⟩
  rw [hR.out]
  go_enter Tryd.func58, Tryd.ntmps58
  go_wp2_with fail
  go_loop [1] (fun kv => ∃ k : Nat, k ≤ s.size ∧ kv = .int .i64 (k : Int) ∧ Hid (k + (((bs s).drop k).takeWhile Kx.alC).length = R)) (fun kv => s.size - (intOf kv).toNat)
  case atStart => exact ⟨at_, hat, rfl, hR⟩
  case round =>
    obtain ⟨k, hk, rfl, hq⟩ := hrel
    by_cases hlt : k < s.size
    · have hltI : (k : Int) < (s.size : Int) := by omega
      have hd := drop_at hlt
      cases hl : Kx.letC s[k] with
      | true =>
        have HQ := Lib.hid (show k + 1 + (((bs s).drop (k + 1)).takeWhile Kx.alC).length = R by
          have := hq.out
          rw [hd, List.takeWhile_cons, if_pos (by unfold Kx.alC; rw [hl]; rfl), List.length_cons] at this
          omega)
        have HL := Lib.hid hl
        clear hl hd
        go_wp2_with fail
        refine (rletter_c _ _).mono ?_
        rintro e w' ⟨rfl, rfl⟩
        rw [HL.out]
        go_wp2_with fail
        go_round
        case rel => exact ⟨k + 1, by omega, by go_num, HQ⟩
        case measure => simp [intOf]; omega
      | false =>
        cases hg : Kx.digC s[k] with
        | true =>
          have HQ := Lib.hid (show k + 1 + (((bs s).drop (k + 1)).takeWhile Kx.alC).length = R by
            have := hq.out
            rw [hd, List.takeWhile_cons, if_pos (by unfold Kx.alC; rw [hg]; simp), List.length_cons] at this
            omega)
          have HL := Lib.hid hl
          have HG := Lib.hid hg
          clear hl hd hg
          go_wp2_with fail
          refine (rletter_c _ _).mono ?_
          rintro e w' ⟨rfl, rfl⟩
          rw [HL.out]
          go_wp2_with fail
          refine (rdigit_c _ _).mono ?_
          rintro e w' ⟨rfl, rfl⟩
          rw [HG.out]
          go_wp2_with fail
          go_round
          case rel => exact ⟨k + 1, by omega, by go_num, HQ⟩
          case measure => simp [intOf]; omega
        | false =>
          have HQ := Lib.hid (show k = R by
            have := hq.out
            rw [hd, List.takeWhile_cons, if_neg (by unfold Kx.alC; rw [hl, hg]; decide)] at this
            exact this)
          have HL := Lib.hid hl
          have HG := Lib.hid hg
          clear hl hd hg
          go_wp2_with fail
          refine (rletter_c _ _).mono ?_
          rintro e w' ⟨rfl, rfl⟩
          rw [HL.out]
          go_wp2_with fail
          refine (rdigit_c _ _).mono ?_
          rintro e w' ⟨rfl, rfl⟩
          rw [HG.out]
          go_wp2_with fail
          go_ret
          exact ⟨ret_int (by rw [HQ.out]), rfl⟩
    · have HQ := Lib.hid (show k = R by
        have := hq.out
        rw [List.drop_of_length_le (by rw [bs_length]; omega)] at this
        exact this)
      have hltI : ¬ (k : Int) < (s.size : Int) := by omega
      go_wp2_with fail
      go_ret
      exact ⟨ret_int (by rw [HQ.out]), rfl⟩

set_option maxRecDepth 100000 in
set_option maxHeartbeats 4000000 in
theorem rblank_any (s : ByteArray) (at_ : Nat) (hs : s.size ≤ 1000000) (hat : at_ ≤ s.size) (w : World) :
    Calls Tryd.prog 51 #[.string s, .int .i64 (at_ : Int)] w fun e w' => e = .returned (.int .i64 ((s.size - (Kx.skipL false ((bs s).drop at_)).length : Nat) : Int)) ∧ w = w' := by
  obtain ⟨R, hR⟩ : ∃ R, Hid (Kx.skipL false ((bs s).drop at_) = R) := ⟨_, Lib.hid rfl⟩
  rw [hR.out]
  go_enter Tryd.func51, Tryd.ntmps51
  go_wp2_with fail
  go_loop [1] (fun kv => ∃ k : Nat, k ≤ s.size ∧ kv = .int .i64 (k : Int) ∧ Hid (Kx.skipL false ((bs s).drop k) = R)) (fun kv => s.size - (intOf kv).toNat)
  case atStart => exact ⟨at_, hat, rfl, hR⟩
  case round =>
    obtain ⟨k0, hk0, rfl, hq⟩ := hrel
    by_cases hlt : k0 < s.size
    · have hltI : (k0 : Int) < (s.size : Int) := by omega
      have hd := drop_at hlt
      have hq2 := hq.out
      rw [hd, Kx.skip_cons] at hq2
      by_cases h35 : s[k0].toNat = 35
      · have e : s[k0] = 35 := UInt8.toNat_inj.1 h35
        have hq3 : Hid (Kx.skipL true ((bs s).drop k0) = R) := Lib.hid (by
          rw [hd, Kx.skip_cons]
          rw [e] at hq2 ⊢
          exact hq2)
        have q1 : (((s[k0].toNat : Nat) : Int) == 35) = true := is_i (by omega)
        have HNE : Hid (s[k0].toNat ≠ 10) := Lib.hid (by omega)
        clear hd hq2 e h35
        go_wp2_with fail
        go_loop [1] (fun kv => ∃ k : Nat, k0 ≤ k ∧ k ≤ s.size ∧ kv = .int .i64 (k : Int) ∧ Hid (k = k0 → s[k0].toNat ≠ 10) ∧ Hid (Kx.skipL true ((bs s).drop k) = R)) (fun kv => s.size - (intOf kv).toNat)
        case atStart => exact ⟨k0, Nat.le_refl _, hk0, rfl, Lib.hid fun _ => HNE.out, hq3⟩
        case round =>
          obtain ⟨k, hk1, hk, rfl, hfirst, hq⟩ := hrel
          by_cases hl2 : k < s.size
          · have hl2I : (k : Int) < (s.size : Int) := by omega
            have hd := drop_at hl2
            have hq2 := hq.out
            rw [hd, Kx.skip_cons] at hq2
            by_cases h10 : s[k].toNat = 10
            · have e : s[k] = 10 := UInt8.toNat_inj.1 h10
              have HQ : Hid (Kx.skipL false ((bs s).drop k) = R) := Lib.hid (by
                rw [hd, Kx.skip_cons]
                rw [e] at hq2 ⊢
                exact hq2)
              have q2 : (((s[k].toNat : Nat) : Int) != 10) = false := by rw [h10]; rfl
              have hgt : k0 < k := by
                rcases Nat.lt_or_eq_of_le hk1 with h | h
                · exact h
                · exfalso; subst h; exact hfirst.out rfl h10
              clear hd hq2 e h10
              go_wp2_with fail
              go_round
              case rel => exact ⟨k, hk, rfl, HQ⟩
              case measure => simp [intOf]; omega
            · have q2 : (((s[k].toNat : Nat) : Int) != 10) = true := by simp; omega
              have HQ : Hid (Kx.skipL true ((bs s).drop (k + 1)) = R) := Lib.hid (by
                rw [if_neg (fun e => h10 (by rw [eq_of_beq e]; rfl))] at hq2
                rw [← hq2]
                (repeat' split) <;> first | rfl | exact absurd rfl ‹_›)
              clear hd hq2 h10
              go_wp2_with fail
              go_round
              case rel => exact ⟨k + 1, by omega, by omega, by go_num, Lib.hid fun e => by omega, HQ⟩
              case measure => simp [intOf]; omega
          · obtain rfl : k = s.size := by omega
            have HQ : Hid (Kx.skipL false ((bs s).drop s.size) = R) := Lib.hid (by
              have := hq.out
              rw [List.drop_of_length_le (by rw [bs_length]; exact Nat.le_refl _)] at this ⊢
              exact this)
            go_wp2_with fail
            go_round
            case rel => exact ⟨s.size, Nat.le_refl _, rfl, HQ⟩
            case measure => simp [intOf]; omega
      · have q1 : (((s[k0].toNat : Nat) : Int) == 35) = false := no_i (by omega)
        by_cases h32 : s[k0].toNat = 32
        · have e : s[k0] = 32 := UInt8.toNat_inj.1 h32
          have HQ : Hid (Kx.skipL false ((bs s).drop (k0 + 1)) = R) := Lib.hid (by rw [e] at hq2; exact hq2)
          have q2 : (((s[k0].toNat : Nat) : Int) == 32) = true := is_i (by omega)
          clear hd hq2 e h35 h32
          go_wp2_with fail
          go_round
          case rel => exact ⟨k0 + 1, by omega, by go_num, HQ⟩
          case measure => simp [intOf]; omega
        · have q2 : (((s[k0].toNat : Nat) : Int) == 32) = false := no_i (by omega)
          by_cases h9 : s[k0].toNat = 9
          · have e : s[k0] = 9 := UInt8.toNat_inj.1 h9
            have HQ : Hid (Kx.skipL false ((bs s).drop (k0 + 1)) = R) := Lib.hid (by rw [e] at hq2; exact hq2)
            have q3 : (((s[k0].toNat : Nat) : Int) == 9) = true := is_i (by omega)
            clear hd hq2 e h35 h32 h9
            go_wp2_with fail
            go_round
            case rel => exact ⟨k0 + 1, by omega, by go_num, HQ⟩
            case measure => simp [intOf]; omega
          · have q3 : (((s[k0].toNat : Nat) : Int) == 9) = false := no_i (by omega)
            by_cases h10 : s[k0].toNat = 10
            · have e : s[k0] = 10 := UInt8.toNat_inj.1 h10
              have HQ : Hid (Kx.skipL false ((bs s).drop (k0 + 1)) = R) := Lib.hid (by rw [e] at hq2; exact hq2)
              have q4 : (((s[k0].toNat : Nat) : Int) == 10) = true := is_i (by omega)
              clear hd hq2 e h35 h32 h9 h10
              go_wp2_with fail
              go_round
              case rel => exact ⟨k0 + 1, by omega, by go_num, HQ⟩
              case measure => simp [intOf]; omega
            · have q4 : (((s[k0].toNat : Nat) : Int) == 10) = false := no_i (by omega)
              have hbl : Kx.blC s[k0] = false := by
                unfold Kx.blC
                rw [Bool.or_eq_false_iff, beq_eq_false_iff_ne, beq_eq_false_iff_ne]
                exact ⟨fun e => h32 (by rw [e]; rfl), fun e => h9 (by rw [e]; rfl)⟩
              have HL := Lib.hid (show k0 = s.size - R.length by
                rw [if_neg (fun e => h10 (by rw [eq_of_beq e]; rfl)), if_neg (fun e => h35 (by rw [eq_of_beq e]; rfl)), hbl, if_neg (by decide), if_neg (by decide), ← hd] at hq2
                rw [← hq2, List.length_drop, bs_length]; omega)
              clear hd hq2 h35 h32 h9 h10 hbl
              go_wp2_with fail
              go_ret
              exact ⟨ret_int (by rw [← HL.out]), rfl⟩
    · obtain rfl : k0 = s.size := by omega
      have HL := Lib.hid (show s.size = s.size - R.length by
        have := hq.out
        rw [List.drop_of_length_le (by rw [bs_length]; exact Nat.le_refl _)] at this
        rw [← this]; rfl)
      go_wp2_with fail
      go_ret
      exact ⟨ret_int (by rw [← HL.out]), rfl⟩

theorem lst2_no {s : ByteArray} {a b x y : UInt8} (h : s.toList = [a, b]) (hn : ¬ (a = x ∧ b = y)) : (s.toList == [x, y]) = false := by
  rw [h, beq_eq_false_iff_ne]
  intro e
  injection e with e1 e2
  injection e2 with e2 _
  exact hn ⟨e1, e2⟩
theorem lst21 {s : ByteArray} {a b x : UInt8} (h : s.toList = [a, b]) : (s.toList == [x]) = false := by
  rw [h, beq_eq_false_iff_ne]
  intro e
  injection e with e1 e2
  cases e2
theorem lst12 {s : ByteArray} {a x y : UInt8} (h : s.toList = [a]) : (s.toList == [x, y]) = false := by
  rw [h, beq_eq_false_iff_ne]
  intro e
  injection e with e1 e2
  cases e2
theorem lst1_no {s : ByteArray} {a x : UInt8} (h : s.toList = [a]) (hn : a ≠ x) : (s.toList == [x]) = false := by
  rw [h, beq_eq_false_iff_ne]
  intro e
  injection e with e1 e2
  exact hn e1
theorem Kx.sgl_cases {a : UInt8} (h : Kx.sgl.contains a = true) : a = 59 ∨ a = 58 ∨ a = 44 ∨ a = 46 ∨ a = 61 ∨ a = 43 ∨ a = 45 ∨ a = 42 ∨ a = 47 ∨ a = 37 ∨ a = 60 ∨ a = 62 ∨ a = 33 ∨ a = 63 ∨ a = 40 ∨ a = 41 ∨ a = 91 ∨ a = 93 ∨ a = 123 ∨ a = 125 := by
  simpa [Kx.sgl] using h
theorem Kx.sgl_no {a : UInt8} (h : Kx.sgl.contains a = false) : a ≠ 59 ∧ a ≠ 58 ∧ a ≠ 44 ∧ a ≠ 46 ∧ a ≠ 61 ∧ a ≠ 43 ∧ a ≠ 45 ∧ a ≠ 42 ∧ a ≠ 47 ∧ a ≠ 37 ∧ a ≠ 60 ∧ a ≠ 62 ∧ a ≠ 33 ∧ a ≠ 63 ∧ a ≠ 40 ∧ a ≠ 41 ∧ a ≠ 91 ∧ a ≠ 93 ∧ a ≠ 123 ∧ a ≠ 125 := by
  refine ⟨?_, ?_, ?_, ?_, ?_, ?_, ?_, ?_, ?_, ?_, ?_, ?_, ?_, ?_, ?_, ?_, ?_, ?_, ?_, ?_⟩ <;> (rintro rfl; exact absurd h (by decide))
set_option maxRecDepth 100000 in
set_option maxHeartbeats 8000000 in
theorem isSign_two (s : ByteArray) (a b : UInt8) (h : s.toList = [a, b]) (w : World) :
    Calls Tryd.prog 78 #[.string s] w fun e w' => e = .returned (.bool (Kx.dbl.contains (a, b))) ∧ w = w' := by
  cases hd : Kx.dbl.contains (a, b) with
  | true =>
    have hc := Kx.dbl_cases hd
    clear hd
    rcases hc with ⟨rfl, rfl⟩ | ⟨rfl, rfl⟩ | ⟨rfl, rfl⟩ | ⟨rfl, rfl⟩ | ⟨rfl, rfl⟩ | ⟨rfl, rfl⟩ | ⟨rfl, rfl⟩
    all_goals
      go_enter Tryd.func78, Tryd.ntmps78
      go_wp2_with fail
      go_ret
      exact ⟨rfl, rfl⟩
  | false =>
    obtain ⟨n0, n1, n2, n3, n4, n5, n6⟩ := Kx.dbl_no hd
    have p0 := lst2_no h n0
    have p1 := lst2_no h n1
    have p2 := lst2_no h n2
    have p3 := lst2_no h n3
    have p4 := lst2_no h n4
    have p5 := lst2_no h n5
    have p6 := lst2_no h n6
    have q0 : (s.toList == [59]) = false := lst21 h
    have q1 : (s.toList == [58]) = false := lst21 h
    have q2 : (s.toList == [44]) = false := lst21 h
    have q3 : (s.toList == [46]) = false := lst21 h
    have q4 : (s.toList == [61]) = false := lst21 h
    have q5 : (s.toList == [43]) = false := lst21 h
    have q6 : (s.toList == [45]) = false := lst21 h
    have q7 : (s.toList == [42]) = false := lst21 h
    have q8 : (s.toList == [47]) = false := lst21 h
    have q9 : (s.toList == [37]) = false := lst21 h
    have q10 : (s.toList == [60]) = false := lst21 h
    have q11 : (s.toList == [62]) = false := lst21 h
    have q12 : (s.toList == [33]) = false := lst21 h
    have q13 : (s.toList == [63]) = false := lst21 h
    have q14 : (s.toList == [40]) = false := lst21 h
    have q15 : (s.toList == [41]) = false := lst21 h
    have q16 : (s.toList == [91]) = false := lst21 h
    have q17 : (s.toList == [93]) = false := lst21 h
    have q18 : (s.toList == [123]) = false := lst21 h
    have q19 : (s.toList == [125]) = false := lst21 h
    clear n0 n1 n2 n3 n4 n5 n6 hd h
    go_enter Tryd.func78, Tryd.ntmps78
    go_wp2_with fail
    go_ret
    exact ⟨rfl, rfl⟩
set_option maxRecDepth 100000 in
set_option maxHeartbeats 8000000 in
theorem isSign_one (s : ByteArray) (a : UInt8) (h : s.toList = [a]) (w : World) :
    Calls Tryd.prog 78 #[.string s] w fun e w' => e = .returned (.bool (Kx.sgl.contains a)) ∧ w = w' := by
  cases hd : Kx.sgl.contains a with
  | true =>
    have hc := Kx.sgl_cases hd
    clear hd
    rcases hc with rfl | rfl | rfl | rfl | rfl | rfl | rfl | rfl | rfl | rfl | rfl | rfl | rfl | rfl | rfl | rfl | rfl | rfl | rfl | rfl
    all_goals
      go_enter Tryd.func78, Tryd.ntmps78
      go_wp2_with fail
      go_ret
      exact ⟨rfl, rfl⟩
  | false =>
    obtain ⟨m0, m1, m2, m3, m4, m5, m6, m7, m8, m9, m10, m11, m12, m13, m14, m15, m16, m17, m18, m19⟩ := Kx.sgl_no hd
    have q0 := lst1_no h m0
    have q1 := lst1_no h m1
    have q2 := lst1_no h m2
    have q3 := lst1_no h m3
    have q4 := lst1_no h m4
    have q5 := lst1_no h m5
    have q6 := lst1_no h m6
    have q7 := lst1_no h m7
    have q8 := lst1_no h m8
    have q9 := lst1_no h m9
    have q10 := lst1_no h m10
    have q11 := lst1_no h m11
    have q12 := lst1_no h m12
    have q13 := lst1_no h m13
    have q14 := lst1_no h m14
    have q15 := lst1_no h m15
    have q16 := lst1_no h m16
    have q17 := lst1_no h m17
    have q18 := lst1_no h m18
    have q19 := lst1_no h m19
    have p0 : (s.toList == [46, 46]) = false := lst12 h
    have p1 : (s.toList == [61, 61]) = false := lst12 h
    have p2 : (s.toList == [33, 61]) = false := lst12 h
    have p3 : (s.toList == [60, 61]) = false := lst12 h
    have p4 : (s.toList == [62, 61]) = false := lst12 h
    have p5 : (s.toList == [38, 38]) = false := lst12 h
    have p6 : (s.toList == [124, 124]) = false := lst12 h
    clear m0 m1 m2 m3 m4 m5 m6 m7 m8 m9 m10 m11 m12 m13 m14 m15 m16 m17 m18 m19 hd h
    go_enter Tryd.func78, Tryd.ntmps78
    go_wp2_with fail
    go_ret
    exact ⟨rfl, rfl⟩
end Go.Proofs.YtcckocaaoklibaaDoor
