/- Walks: the comparisons of literals of package and law. -/
import Derived.Test.YtdbboeknknlolaaMem
import Derived.Test.YtdbboeknknlolaaShelf
namespace Go.Proofs.Ytdbboeknknlolaa
open Go.RowKit Go.Sort
set_option linter.unusedVariables false

theorem mag_any (x : Int) (hx : inI x) (w : World) : Calls Try.prog 69 #[.int .i64 x] w fun e w' => e = .returned (.int .u64 ((x.natAbs : Nat) : Int)) ∧ w = w' := by
  unfold inI at hx
  have h1 : Hid (0 ≤ x → IntKind.u64.wrap x = ((x.natAbs : Nat) : Int)) := Lib.hid (fun h => by simp [IntKind.wrap, IntKind.bits, IntKind.signed]; omega)
  have h2 : Hid (x < 0 → IntKind.u64.wrap (-(IntKind.u64.wrap x)) = ((x.natAbs : Nat) : Int)) := Lib.hid (fun h => by simp [IntKind.wrap, IntKind.bits, IntKind.signed]; omega)
  obtain ⟨z, hz⟩ : ∃ z, Hid (((x.natAbs : Nat) : Int) = z) := ⟨_, Lib.hid rfl⟩
  rw [hz.out] at h1 h2 ⊢
  by_cases h : x < 0
  · have e2 := h2.out h
    clear h1 h2 hz
    go_enter Try.func69, Try.ntmps69
    go_wp2_with fail
    go_ret
    exact ⟨rfl, rfl⟩
  · have e1 := h1.out (by omega)
    clear h1 h2 hz
    go_enter Try.func69, Try.ntmps69
    go_wp2_with fail
    go_ret
    exact ⟨rfl, rfl⟩
theorem lmag_any (x : Int) (hx : inI x) (w : World) : Calls Try.prog 17 #[.int .i64 x] w fun e w' => e = .returned (.int .u64 ((x.natAbs : Nat) : Int)) ∧ w = w' := by
  unfold inI at hx
  have h1 : Hid (0 ≤ x → IntKind.u64.wrap x = ((x.natAbs : Nat) : Int)) := Lib.hid (fun h => by simp [IntKind.wrap, IntKind.bits, IntKind.signed]; omega)
  by_cases h : x < 0
  · have g1 : IntKind.i64.wrap (x + 1) = x + 1 := IntWalk.i64_in _ (by omega)
    have g2 : IntKind.i64.wrap (-(x + 1)) = -(x + 1) := IntWalk.i64_in _ (by omega)
    have g3 : IntKind.u64.wrap (-(x + 1)) = -(x + 1) := by simp [IntKind.wrap, IntKind.bits, IntKind.signed]; omega
    have g4 : IntKind.u64.wrap (-(x + 1) + 1) = ((x.natAbs : Nat) : Int) := by simp [IntKind.wrap, IntKind.bits, IntKind.signed]; omega
    obtain ⟨z, hz⟩ : ∃ z, Hid (((x.natAbs : Nat) : Int) = z) := ⟨_, Lib.hid rfl⟩
    rw [hz.out] at g4 ⊢
    clear h1 hz
    go_enter Try.func17, Try.ntmps17
    go_wp2_with fail
    go_ret
    exact ⟨rfl, rfl⟩
  · have e1 := h1.out (by omega)
    obtain ⟨z, hz⟩ : ∃ z, Hid (((x.natAbs : Nat) : Int) = z) := ⟨_, Lib.hid rfl⟩
    rw [hz.out] at e1 ⊢
    clear h1 hz
    go_enter Try.func17, Try.ntmps17
    go_wp2_with fail
    go_ret
    exact ⟨rfl, rfl⟩
/-- comparison of two numbers -/
def cmpZ (a b : Int) : Int := if a < b then -1 else if b < a then 1 else 0
theorem cmpU_any (a b : Nat) (w : World) : Calls Try.prog 68 #[.int .u64 (a : Int), .int .u64 (b : Int)] w fun e w' => e = .returned (.int .i64 (cmpZ a b)) ∧ w = w' := by
  have hn : ∀ (n : Nat) (W : World), Calls Try.prog 102 #[.int .u64 (n : Int)] W fun e w' => e = .returned (.bool false) ∧ W = w' := fun n W => by
    go_enter Try.func102, Try.ntmps102
    go_wp2_with fail
    go_ret
    exact ⟨rfl, rfl⟩
  have HN := Lib.hid hn
  have HZ : Hid (cmpZ a b = if (a : Int) < b then -1 else if (b : Int) < a then 1 else 0) := Lib.hid rfl
  obtain ⟨z, hz⟩ : ∃ z, Hid (cmpZ a b = z) := ⟨_, Lib.hid rfl⟩
  rw [hz.out] at HZ ⊢
  clear hn hz
  go_enter Try.func68, Try.ntmps68
  go_wp2_with fail
  refine (HN.out _ _).mono ?_
  rintro r w1 ⟨rfl, rfl⟩
  go_wp2_with fail
  refine (HN.out _ _).mono ?_
  rintro r w1 ⟨rfl, rfl⟩
  by_cases h1 : (a : Int) < b
  · have hz : z = -1 := by rw [HZ.out, if_pos h1]
    subst hz
    clear HN HZ
    go_wp2_with fail
    go_ret
    exact ⟨rfl, rfl⟩
  · by_cases h2 : (b : Int) < a
    · have hz : z = 1 := by rw [HZ.out, if_neg h1, if_pos h2]
      subst hz
      clear HN HZ
      go_wp2_with fail
      go_ret
      exact ⟨rfl, rfl⟩
    · have hz : z = 0 := by rw [HZ.out, if_neg h1, if_neg h2]
      subst hz
      clear HN HZ
      go_wp2_with fail
      go_ret
      exact ⟨rfl, rfl⟩
theorem cmpI_any (a b : Int) (w : World) : Calls Try.prog 70 #[.int .i64 a, .int .i64 b] w fun e w' => e = .returned (.int .i64 (cmpZ a b)) ∧ w = w' := by
  have h := Try.cmp_Compare_int a b w
  have he : Lib.compareInt a b = cmpZ a b := by unfold Lib.compareInt cmpZ; rfl
  rw [he] at h
  exact h.mono fun e w' ⟨h1, h2⟩ => ⟨h1, h2.symm⟩
/-- cmp.Or of two numbers in a block -/
theorem or2_any (a b : Int) (k : Nat) (w : World) (hb : Blk w k #[.int .i64 a, .int .i64 b]) : Calls Try.prog 67 #[.slice (some ⟨k, 0, none⟩) 2 2] w fun e w' => e = .returned (.int .i64 (if a ≠ 0 then a else b)) ∧ w = w' := by
  have c0 := hb.c 0 rfl
  have c1 := hb.c 1 rfl
  obtain ⟨z, hz⟩ : ∃ z, Hid ((if a ≠ 0 then a else b) = z) := ⟨_, Lib.hid rfl⟩
  rw [hz.out]
  clear hb
  go_enter Try.func67, Try.ntmps67
  go_wp2_with fail
  go_loop [8] (fun iv => (iv = .int .i64 0) ∨ (iv = .int .i64 1 ∧ Hid (a = 0)) ∨ (iv = .int .i64 2 ∧ Hid (a = 0) ∧ Hid (b = 0))) (fun iv => 2 - (intOf iv).toNat)
  case atStart => exact .inl rfl
  case round =>
    rcases hrel with rfl | ⟨rfl, ha⟩ | ⟨rfl, ha, hb⟩
    · by_cases h0 : a = 0
      · have q0 : (a != 0) = false := by simpa using h0
        have h0' := Lib.hid h0
        clear h0
        go_wp2_with fail
        go_round
        case rel => exact .inr (.inl ⟨rfl, h0'⟩)
        case measure => simp [intOf]
      · have q0 : (a != 0) = true := by simpa using h0
        have hz1 : a = z := by rw [← hz.out, if_pos h0]
        subst hz1
        clear h0 hz
        go_wp2_with fail
        go_ret
        exact ⟨rfl, rfl⟩
    · by_cases h0 : b = 0
      · have q0 : (b != 0) = false := by simpa using h0
        have h0' := Lib.hid h0
        clear h0
        go_wp2_with fail
        go_round
        case rel => exact .inr (.inr ⟨rfl, ha, h0'⟩)
        case measure => simp [intOf]
      · have q0 : (b != 0) = true := by simpa using h0
        have hz1 : b = z := by rw [← hz.out, if_neg (by rw [ha.out]; simp)]
        subst hz1
        clear h0 hz ha
        go_wp2_with fail
        go_ret
        exact ⟨rfl, rfl⟩
    · have hz1 : z = 0 := by rw [← hz.out, if_neg (by rw [ha.out]; simp), hb.out]
      subst hz1
      clear hz ha hb
      go_wp2_with fail
      go_ret
      exact ⟨rfl, rfl⟩
theorem litC_or (x y : Int) : (if cmpZ ((x.natAbs : Nat) : Int) ((y.natAbs : Nat) : Int) ≠ 0 then cmpZ ((x.natAbs : Nat) : Int) ((y.natAbs : Nat) : Int) else cmpZ x y) = litC x y := by
  unfold cmpZ litC
  by_cases h1 : x.natAbs < y.natAbs
  · have : (x.natAbs : Int) < y.natAbs := by omega
    simp [h1, this]
  · have h1' : ¬ (x.natAbs : Int) < y.natAbs := by omega
    by_cases h2 : y.natAbs < x.natAbs
    · have : (y.natAbs : Int) < x.natAbs := by omega
      simp [h1, h1', h2, this]
    · have h2' : ¬ (y.natAbs : Int) < x.natAbs := by omega
      simp [h1, h1', h2, h2']
/-- the package's comparison -/
theorem lit_any (x y : Int) (hx : inI x) (hy : inI y) (w : World) : Calls Try.prog 50 #[.int .i64 x, .int .i64 y] w fun e w' => e = .returned (.int .i64 (litC x y)) ∧ Gro w w' := by
  have M1 := Lib.hid (fun W => mag_any x hx W)
  have M2 := Lib.hid (fun W => mag_any y hy W)
  have HO := Lib.hid (litC_or x y)
  have C1 := Lib.hid (fun W => cmpU_any x.natAbs y.natAbs W)
  have C2 := Lib.hid (fun W => cmpI_any x y W)
  obtain ⟨a, ha⟩ : ∃ a, Hid (cmpZ ((x.natAbs : Nat) : Int) ((y.natAbs : Nat) : Int) = a) := ⟨_, Lib.hid rfl⟩
  obtain ⟨b, hb⟩ : ∃ b, Hid (cmpZ x y = b) := ⟨_, Lib.hid rfl⟩
  obtain ⟨z, hz⟩ : ∃ z, Hid (litC x y = z) := ⟨_, Lib.hid rfl⟩
  rw [ha.out] at C1 HO
  rw [hb.out] at C2 HO
  rw [hz.out] at HO ⊢
  obtain ⟨mx, hmx⟩ : ∃ m, Hid (x.natAbs = m) := ⟨_, Lib.hid rfl⟩
  obtain ⟨my, hmy⟩ : ∃ m, Hid (y.natAbs = m) := ⟨_, Lib.hid rfl⟩
  rw [hmx.out] at M1 C1
  rw [hmy.out] at M2 C1
  clear ha hb hz hmx hmy hx hy
  go_enter Try.func50, Try.ntmps50
  go_wp2_with fail
  refine (M1.out _).mono ?_
  rintro r w1 ⟨rfl, rfl⟩
  go_wp2_with fail
  refine (M2.out _).mono ?_
  rintro r w1 ⟨rfl, rfl⟩
  go_wp2_with fail
  refine (C1.out _).mono ?_
  rintro r w1 ⟨rfl, rfl⟩
  go_wp2_with fail
  refine (C2.out _).mono ?_
  rintro r w1 ⟨rfl, rfl⟩
  go_wp2_with fail
  refine (or2_any a b _ _ (Blk.new_ _ _ _)).mono ?_
  rintro r w1 ⟨rfl, rfl⟩
  rw [HO.out]
  have hg := Gro.al w (.cells #[.int .i64 a, .int .i64 b] 3)
  clear M1 M2 C1 C2 HO
  go_wp2_with fail
  go_ret
  exact ⟨rfl, hg⟩
/-- the law's comparison -/
theorem llit_any (x y : Int) (hx : inI x) (hy : inI y) (w : World) : Calls Try.prog 32 #[.int .i64 x, .int .i64 y] w fun e w' => e = .returned (.int .i64 (litC x y)) ∧ Dr w w' := by
  have M1 := Lib.hid (fun W => lmag_any x hx W)
  have M2 := Lib.hid (fun W => lmag_any y hy W)
  have hg := Dr.refl w
  have HZ : Hid (litC x y = if x.natAbs < y.natAbs then -1 else if y.natAbs < x.natAbs then 1 else if x < y then -1 else if y < x then 1 else 0) := Lib.hid rfl
  obtain ⟨z, hz⟩ : ∃ z, Hid (litC x y = z) := ⟨_, Lib.hid rfl⟩
  rw [hz.out] at HZ ⊢
  obtain ⟨mx, hmx⟩ : ∃ m, Hid (x.natAbs = m) := ⟨_, Lib.hid rfl⟩
  obtain ⟨my, hmy⟩ : ∃ m, Hid (y.natAbs = m) := ⟨_, Lib.hid rfl⟩
  rw [hmx.out, hmy.out] at HZ
  rw [hmx.out] at M1
  rw [hmy.out] at M2
  clear hz hmx hmy hx hy
  go_enter Try.func32, Try.ntmps32
  go_wp2_with fail
  refine (M1.out _).mono ?_
  rintro r w1 ⟨rfl, rfl⟩
  go_wp2_with fail
  refine (M2.out _).mono ?_
  rintro r w1 ⟨rfl, rfl⟩
  clear M1 M2
  by_cases h1 : mx < my
  · have hz : z = -1 := by rw [HZ.out, if_pos h1]
    have h1' : (mx : Int) < my := by omega
    subst hz
    clear HZ
    go_wp2_with fail
    go_ret
    exact ⟨rfl, hg⟩
  · have h1' : ¬ (mx : Int) < my := by omega
    by_cases h2 : my < mx
    · have hz : z = 1 := by rw [HZ.out, if_neg h1, if_pos h2]
      have h2' : (my : Int) < mx := by omega
      have q : ((mx : Int) == (my : Int)) = false := by rw [beq_eq_false_iff_ne]; omega
      have q2 : (mx == my) = false := by rw [beq_eq_false_iff_ne]; omega
      subst hz
      clear HZ
      go_wp2_with fail
      go_ret
      exact ⟨rfl, hg⟩
    · obtain rfl : mx = my := by omega
      by_cases h3 : x < y
      · have hz : z = -1 := by rw [HZ.out, if_neg h1, if_neg h2, if_pos h3]
        subst hz
        clear HZ
        go_wp2_with fail
        go_ret
        exact ⟨rfl, hg⟩
      · by_cases h4 : y < x
        · have hz : z = 1 := by rw [HZ.out, if_neg h1, if_neg h2, if_neg h3, if_pos h4]
          subst hz
          clear HZ
          go_wp2_with fail
          go_ret
          exact ⟨rfl, hg⟩
        · have hz : z = 0 := by rw [HZ.out, if_neg h1, if_neg h2, if_neg h3, if_neg h4]
          subst hz
          clear HZ
          go_wp2_with fail
          go_ret
          exact ⟨rfl, hg⟩
end Go.Proofs.Ytdbboeknknlolaa
