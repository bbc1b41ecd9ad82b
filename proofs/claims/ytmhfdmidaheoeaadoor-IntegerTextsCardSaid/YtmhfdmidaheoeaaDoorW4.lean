/- Walks: cmp.Compare, compareWords. -/
import Derived.Test.YtmhfdmidaheoeaaDoorW3
namespace Go.Proofs.YtmhfdmidaheoeaaDoor
open Go.RowKit
set_option linter.unusedVariables false

set_option maxHeartbeats 400000 in
theorem isNaN_int (x : Int) (w : World) : Calls Tryd.prog 66 #[.int .i64 x] w fun e w' => e = .returned (.bool false) ∧ w = w' := by
  go_enter Tryd.func66, Tryd.ntmps66
  go_wp2
  go_ret
  exact ⟨by simp, rfl⟩
set_option maxHeartbeats 400000 in
theorem isNaN_u32 (x : Int) (w : World) : Calls Tryd.prog 86 #[.int .u32 x] w fun e w' => e = .returned (.bool false) ∧ w = w' := by
  go_enter Tryd.func86, Tryd.ntmps86
  go_wp2
  go_ret
  exact ⟨by simp, rfl⟩

/-- the order of two integers -/
def cmpI (x y : Int) : Int := if x < y then -1 else if y < x then 1 else 0
theorem cmpI_nat (n m : Nat) : cmpI (n : Int) (m : Int) = Kn.cmp n m := by
  unfold cmpI Kn.cmp
  rcases Nat.lt_trichotomy n m with h | h | h
  · rw [if_pos (by omega), if_pos h]
  · rw [if_neg (by omega), if_neg (by omega), if_neg (by omega), if_pos h]
  · rw [if_neg (by omega), if_pos (by omega), if_neg (by omega), if_neg (by omega)]
set_option maxHeartbeats 400000 in
theorem cmp_int (x y : Int) (w : World) : Calls Tryd.prog 40 #[.int .i64 x, .int .i64 y] w fun e w' => e = .returned (.int .i64 (cmpI x y)) ∧ w = w' := by
  unfold cmpI
  by_cases h1 : x < y
  · rw [if_pos h1]
    go_enter Tryd.func40, Tryd.ntmps40
    go_wp2_with (go_at_call 66; refine (isNaN_int _ _).mono ?_; rintro e w' ⟨rfl, rfl⟩)
    go_ret
    exact ⟨rfl, rfl⟩
  · rw [if_neg h1]
    by_cases h2 : y < x
    · rw [if_pos h2]
      go_enter Tryd.func40, Tryd.ntmps40
      go_wp2_with (go_at_call 66; refine (isNaN_int _ _).mono ?_; rintro e w' ⟨rfl, rfl⟩)
      go_ret
      exact ⟨rfl, rfl⟩
    · rw [if_neg h2]
      go_enter Tryd.func40, Tryd.ntmps40
      go_wp2_with (go_at_call 66; refine (isNaN_int _ _).mono ?_; rintro e w' ⟨rfl, rfl⟩)
      go_ret
      exact ⟨rfl, rfl⟩
set_option maxHeartbeats 400000 in
theorem cmp_u32 (x y : Int) (w : World) : Calls Tryd.prog 67 #[.int .u32 x, .int .u32 y] w fun e w' => e = .returned (.int .i64 (cmpI x y)) ∧ w = w' := by
  unfold cmpI
  by_cases h1 : x < y
  · rw [if_pos h1]
    go_enter Tryd.func67, Tryd.ntmps67
    go_wp2_with (go_at_call 86; refine (isNaN_u32 _ _).mono ?_; rintro e w' ⟨rfl, rfl⟩)
    go_ret
    exact ⟨rfl, rfl⟩
  · rw [if_neg h1]
    by_cases h2 : y < x
    · rw [if_pos h2]
      go_enter Tryd.func67, Tryd.ntmps67
      go_wp2_with (go_at_call 86; refine (isNaN_u32 _ _).mono ?_; rintro e w' ⟨rfl, rfl⟩)
      go_ret
      exact ⟨rfl, rfl⟩
    · rw [if_neg h2]
      go_enter Tryd.func67, Tryd.ntmps67
      go_wp2_with (go_at_call 86; refine (isNaN_u32 _ _).mono ?_; rintro e w' ⟨rfl, rfl⟩)
      go_ret
      exact ⟨rfl, rfl⟩

set_option maxRecDepth 100000 in
set_option maxHeartbeats 1000000 in
theorem compareWords_any (A : Option Addr) (ca : Nat) (n : Nat) (B : Option Addr) (cb : Nat) (m : Nat) (w : World) (P : Nat) (ha : Sl w P A ca (Kn.dig n)) (hb : Sl w P B cb (Kn.dig m)) (hla : (Kn.dig n).length ≤ 1000000000) (hlb : (Kn.dig m).length ≤ 1000000000) :
    Calls Tryd.prog 41 #[.slice A (Kn.dig n).length ca, .slice B (Kn.dig m).length cb] w fun e w' => e = .returned (.int .i64 (Kn.cmp n m)) ∧ ∃ q, w' = w.drewN q := by
  obtain ⟨a, hA⟩ : ∃ a, Hid (a = Kn.dig n) := ⟨_, Lib.hid rfl⟩
  obtain ⟨b, hB⟩ : ∃ b, Hid (b = Kn.dig m) := ⟨_, Lib.hid rfl⟩
  have hcn : ∀ x, x = Kn.cmp (Kn.val a) (Kn.val b) → x = Kn.cmp n m := fun x h => by rw [h, hA.out, hB.out, Kn.val_dig, Kn.val_dig]
  have HCN := Lib.hid hcn
  clear hcn
  have HLen : Hid (a.length ≠ b.length → Kn.cmp n m = Kn.cmp a.length b.length) := Lib.hid (fun h => by rw [hA.out, hB.out] at h ⊢; exact Kn.cmp_len h)
  rw [← hA.out] at ha hla ⊢
  rw [← hB.out] at hb hlb ⊢
  by_cases hl : a.length = b.length
  · have hle : ((a.length : Int) != (b.length : Int)) = false := by simp [hl]
    have hle2 : (a.length != b.length) = false := by simp [hl]
    have hbl : b.length ≤ a.length := by omega
    have hbl2 : a.length ≤ b.length := by omega
    have HL := Lib.hid hl
    clear hl
    go_enter Tryd.func41, Tryd.ntmps41
    go_wp2_with fail
    go_loopw [5] (fun v wr => ∃ k q : Nat, k ≤ a.length ∧ v = .int .i64 ((k : Int) - 1) ∧ wr = w.drewN q ∧ Hid (a.drop k = b.drop k)) (fun v _ => (intOf v + 1).toNat)
    case atStart => exact ⟨a.length, 0, Nat.le_refl _, rfl, rfl, Lib.hid (by rw [List.drop_of_length_le (Nat.le_refl _), List.drop_of_length_le (by have := HL.out; omega)])⟩
    case round =>
      obtain ⟨k, q, hk, rfl, rfl, HD⟩ := hrel
      by_cases hk0 : k = 0
      · subst hk0
        go_wp2_with fail
        go_ret
        exact ⟨ret_int (HCN.out _ (by have := HD.out; rw [List.drop_zero, List.drop_zero] at this; rw [this, Kn.cmp_self])), _, rfl⟩
      · have hk1 : 0 < k := by omega
        obtain ⟨b1, o1, x, rfl, hb1, hc1, hx, hxl⟩ := ha.word (k := k - 1) (by omega)
        obtain ⟨b2, o2, y, rfl, hb2, hc2, hy, hyl⟩ := hb.word (k := k - 1) (by omega)
        have e1 : ((k : Int) - 1).toNat = k - 1 := by omega
        have e2 : (0 : Int) ≤ (k : Int) - 1 := by omega
        have e3 : (k : Int) - 1 < (a.length : Int) := by omega
        have e4 : (k : Int) - 1 < (b.length : Int) := by omega
        clear hk0
        by_cases hxy : x = y
        · subst hxy
          have HD' : Hid (a.drop (k - 1) = b.drop (k - 1)) := Lib.hid (Kn.drop_ext HL.out (by omega) (by rw [Nat.sub_add_cancel hk1]; exact HD.out) (by rw [← hx.out, ← hy.out]))
          go_wp2_with fail
          go_quiet (fail)
          go_wp2_with fail
          go_roundw
          case rel => exact ⟨k - 1, _, by omega, by go_num, rfl, HD'⟩
          case measure => simp [intOf]; omega
        · have hne : ((x : Int) != (y : Int)) = true := by simp; omega
          have hne2 : (x != y) = true := by simp; omega
          have HC : Hid (cmpI (x : Int) (y : Int) = Kn.cmp (Kn.val a) (Kn.val b)) := Lib.hid (by
            rw [cmpI_nat, hx.out, hy.out]
            refine (Kn.cmp_at ha.wd hb.wd HL.out (by omega) (by rw [Nat.sub_add_cancel hk1]; exact HD.out) ?_).symm
            rw [← hx.out, ← hy.out]; exact hxy)
          clear hxy
          go_wp2_with fail
          go_quiet (fail)
          go_wp2_with fail
          go_quiet ((go_at_call 67; first | exact quiet_more (cmp_u32 _ _ _) | exact quiet_of_eq (cmp_u32 _ _ _)))
          go_wp2_with fail
          go_ret
          exact ⟨ret_int (HCN.out _ HC.out), _, by rw [World.drewN_drewN, World.drewN_drewN]⟩
  · have hle : ((a.length : Int) != (b.length : Int)) = true := by simp; omega
    have hle2 : (a.length != b.length) = true := by simp; omega
    have HC : Hid (cmpI (a.length : Int) (b.length : Int) = Kn.cmp n m) := Lib.hid (by rw [cmpI_nat, HLen.out hl])
    clear hl
    go_enter Tryd.func41, Tryd.ntmps41
    go_wp2_with (go_at_call 40; refine (cmp_int _ _ _).mono ?_; rintro e w' ⟨rfl, rfl⟩)
    go_ret
    exact ⟨ret_int HC.out, 0, rfl⟩
end Go.Proofs.YtmhfdmidaheoeaaDoor
