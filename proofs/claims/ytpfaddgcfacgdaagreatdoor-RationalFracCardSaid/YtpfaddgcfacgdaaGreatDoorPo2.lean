/- My texts, packed: M6, M3, LawFrac. -/
import Derived.Test.YtpfaddgcfacgdaaGreatDoorPk14
import Derived.Test.YtpfaddgcfacgdaaGreatDoorPl1
import Derived.Test.YtpfaddgcfacgdaaGreatDoorPo1
/- Walks of package rational: RationalFrac. -/
namespace Go.Proofs.YtpfaddgcfacgdaaGreatDoor
open Go.RowKit
set_option linter.unusedVariables false

theorem lessF_self (a b : Int) : lessF a b a b = false := decide_eq_false (fun h => by have := h.2.2; omega)
set_option maxRecDepth 100000 in
set_option maxHeartbeats 3000000 in
theorem frac_ok (num den a b u v k : Int) (w : World) (hn : -9223372036854775808 ≤ num ∧ num ≤ 9223372036854775807) (hd : -9223372036854775808 ≤ den ∧ den ≤ 9223372036854775807) (ha : -9223372036854775808 ≤ a ∧ a ≤ 9223372036854775807) (hb : -9223372036854775808 ≤ b ∧ b ≤ 9223372036854775807) (hu : -9223372036854775808 ≤ u ∧ u ≤ 9223372036854775807) (hv : -9223372036854775808 ≤ v ∧ v ≤ 9223372036854775807) (r1 : ∀ W : World, Calls Tryz.prog 38 #[.int .i64 num, .int .i64 den] W fun e w' => e = .returned (.tuple #[.agg #[.int .i64 u, .int .i64 v], .int .i64 k]) ∧ Below W.heap.size W w') (r2 : ∀ W : World, Calls Tryz.prog 39 #[.int .i64 num, .int .i64 den] W fun e w' => e = .returned (.tuple #[.agg #[.int .i64 u, .int .i64 v], .int .i64 k]) ∧ Below W.heap.size W w') (ht : Tabs w) (mx : Mx w) (hv0 : 0 ≤ a ∧ 1 ≤ b) :
    Calls Tryz.prog 10 #[.int .i64 num, .int .i64 den, .agg #[.int .i64 a, .int .i64 b]] w fun e w' => e = .returned (.bool true) ∧ Below w.heap.size w w' := by
  have HR1 := Lib.hid r1
  have HR2 := Lib.hid r2
  obtain ⟨F1, hF1⟩ : ∃ F, F = lessF u v a b := ⟨_, rfl⟩
  obtain ⟨F2, hF2⟩ : ∃ F, F = lessF a b num den := ⟨_, rfl⟩
  have bF1 : (F1 == F1) = true := beq_self_eq_true F1
  have bF2 : (F2 == F2) = true := beq_self_eq_true F2
  have HL1 := Lib.hid (fun (W : World) => (by have h := less_any u v a b hu.2 hv.2 ha.2 hb.2 W; rw [← hF1] at h; exact h : Calls Tryz.prog 42 #[.agg #[.int .i64 u, .int .i64 v], .agg #[.int .i64 a, .int .i64 b]] W fun e w' => e = .returned (.bool F1) ∧ Below W.heap.size W w'))
  have HL2 := Lib.hid (fun (W : World) => (by have h := rless_any u v a b hu hv ha hb W; rw [← hF1] at h; exact h : Calls Tryz.prog 43 #[.agg #[.int .i64 u, .int .i64 v], .agg #[.int .i64 a, .int .i64 b]] W fun e w' => e = .returned (.bool F1) ∧ Below W.heap.size W w'))
  have HL3 := Lib.hid (fun (W : World) => (by have h := less_any a b num den ha.2 hb.2 hn.2 hd.2 W; rw [← hF2] at h; exact h : Calls Tryz.prog 42 #[.agg #[.int .i64 a, .int .i64 b], .agg #[.int .i64 num, .int .i64 den]] W fun e w' => e = .returned (.bool F2) ∧ Below W.heap.size W w'))
  have HL4 := Lib.hid (fun (W : World) => (by have h := rless_any a b num den ha hb hn hd W; rw [← hF2] at h; exact h : Calls Tryz.prog 43 #[.agg #[.int .i64 a, .int .i64 b], .agg #[.int .i64 num, .int .i64 den]] W fun e w' => e = .returned (.bool F2) ∧ Below W.heap.size W w'))
  have HL5 := Lib.hid (fun (W : World) => (by have h := less_any a b a b ha.2 hb.2 ha.2 hb.2 W; rw [lessF_self] at h; exact h : Calls Tryz.prog 42 #[.agg #[.int .i64 a, .int .i64 b], .agg #[.int .i64 a, .int .i64 b]] W fun e w' => e = .returned (.bool false) ∧ Below W.heap.size W w'))
  obtain ⟨z, hz⟩ : ∃ z, z = Rat.divInt a b := ⟨_, rfl⟩
  have HX1 := Lib.hid (fun (W : World) => (by have h := ff_ok a b ha hb hv0 W; rw [← hz] at h; exact h : Calls Tryz.prog 40 #[.agg #[.int .i64 a, .int .i64 b]] W (GRc z 2 W)))
  have HX2 := Lib.hid (fun (W : World) => (by have h := rff_ok a b ha hb hv0 W; rw [← hz] at h; exact h : Calls Tryz.prog 41 #[.agg #[.int .i64 a, .int .i64 b]] W (GRc z 2 W)))
  clear r1 r2 hF1 hF2 hn hd ha hb hu hv hv0 hz
  go_enter Tryz.func10, Tryz.ntmps10
  go_wp2_with fail
  have t1 : Two (w.alloc (.cells #[.int .i64 a, .int .i64 b] 47)) w.heap.size (.int .i64 a) (.int .i64 b) := Two.new_ w (.int .i64 a) (.int .i64 b) 47
  have bel : Below w.heap.size w (w.alloc (.cells #[.int .i64 a, .int .i64 b] 47)) := (Below.refl _ _).alloc (Nat.le_refl _) _
  generalize (w.alloc (.cells #[.int .i64 a, .int .i64 b] 47)) = wx at t1 bel ⊢
  refine (rknown_ok _ (ht.below bel) (mx.below_ bel)).mono ?_
  rintro e w2 ⟨rfl, hb⟩
  replace t1 := t1.below hb t1.lt
  replace bel := bel.trans (hb.mono bel.size)
  clear hb
  clear ht mx
  go_wp2_with fail
  refine (HR1.out _).mono ?_
  rintro e w3 ⟨rfl, hb⟩
  replace t1 := t1.below hb t1.lt
  replace bel := bel.trans (hb.mono bel.size)
  clear hb
  go_upto_region 4 with (fail)
  have hg2 : w.heap.size < w3.heap.size := t1.lt
  have t2 : Two (w3.alloc (.cells #[.int .i64 u, .int .i64 v] 47)) w3.heap.size (.int .i64 u) (.int .i64 v) := Two.new_ w3 (.int .i64 u) (.int .i64 v) 47
  have bn : Below w3.heap.size w3 (w3.alloc (.cells #[.int .i64 u, .int .i64 v] 47)) := (Below.refl _ _).alloc (Nat.le_refl _) _
  replace t1 := t1.below bn t1.lt
  replace bel := bel.trans (bn.mono bel.size)
  clear bn
  generalize (w3.alloc (.cells #[.int .i64 u, .int .i64 v] 47)) = v1 at t1 bel t2 ⊢
  generalize w3.heap.size = g2 at t1 bel t2 hg2 ⊢
  go_wp2_with fail
  refine (HR2.out _).mono ?_
  rintro e w4 ⟨rfl, hb⟩
  replace t1 := t1.below hb t1.lt
  replace bel := bel.trans (hb.mono bel.size)
  replace t2 := t2.below hb t2.lt
  clear hb
  go_upto_region 5 with (fail)
  have hg3 : g2 < w4.heap.size := t2.lt
  have t3 : Two (w4.alloc (.cells #[.int .i64 u, .int .i64 v] 47)) w4.heap.size (.int .i64 u) (.int .i64 v) := Two.new_ w4 (.int .i64 u) (.int .i64 v) 47
  have bn : Below w4.heap.size w4 (w4.alloc (.cells #[.int .i64 u, .int .i64 v] 47)) := (Below.refl _ _).alloc (Nat.le_refl _) _
  replace t1 := t1.below bn t1.lt
  replace bel := bel.trans (bn.mono bel.size)
  replace t2 := t2.below bn t2.lt
  clear bn
  generalize (w4.alloc (.cells #[.int .i64 u, .int .i64 v] 47)) = v2 at t1 bel t2 t3 ⊢
  generalize w4.heap.size = g3 at t1 bel t2 t3 hg3 ⊢
  have t1_0 := t1.c0
  have t1_1 := t1.c1
  go_wp2_with fail
  refine (HX1.out _).mono ?_
  rintro e w5 ⟨A4, c4, l4, B4, d4, m4, rfl, E4, hb⟩
  clear t1_0 t1_1
  replace t1 := t1.below hb t1.lt
  replace bel := bel.trans (hb.mono bel.size)
  replace t2 := t2.below hb t2.lt
  replace t3 := t3.below hb t3.lt
  clear hb
  go_upto_region 6 with (fail)
  have hg4 : g3 < w5.heap.size := t3.lt
  have t4 : Four (w5.alloc (.cells #[.bool (decide (z.num < 0)), .slice A4 l4.length c4, .bool false, .slice B4 m4.length d4] 26)) w5.heap.size (.bool (decide (z.num < 0))) (.slice A4 l4.length c4) (.bool false) (.slice B4 m4.length d4) := Four.new_ w5 (.bool (decide (z.num < 0))) (.slice A4 l4.length c4) (.bool false) (.slice B4 m4.length d4) 26
  have bn : Below w5.heap.size w5 (w5.alloc (.cells #[.bool (decide (z.num < 0)), .slice A4 l4.length c4, .bool false, .slice B4 m4.length d4] 26)) := (Below.refl _ _).alloc (Nat.le_refl _) _
  replace t1 := t1.below bn t1.lt
  replace bel := bel.trans (bn.mono bel.size)
  replace t2 := t2.below bn t2.lt
  replace t3 := t3.below bn t3.lt
  replace E4 := E4.below bn
  clear bn
  generalize (w5.alloc (.cells #[.bool (decide (z.num < 0)), .slice A4 l4.length c4, .bool false, .slice B4 m4.length d4] 26)) = v3 at t1 bel t2 t3 E4 t4 ⊢
  generalize w5.heap.size = g4 at t1 bel t2 t3 E4 t4 hg4 ⊢
  have t1_0 := t1.c0
  have t1_1 := t1.c1
  go_wp2_with fail
  refine (HX2.out _).mono ?_
  rintro e w6 ⟨A5, c5, l5, B5, d5, m5, rfl, E5, hb⟩
  clear t1_0 t1_1
  replace t1 := t1.below hb t1.lt
  replace bel := bel.trans (hb.mono bel.size)
  replace t2 := t2.below hb t2.lt
  replace t3 := t3.below hb t3.lt
  replace E4 := E4.below hb
  replace t4 := t4.below hb t4.lt
  clear hb
  go_upto_region 7 with (fail)
  have hg5 : g4 < w6.heap.size := t4.lt
  have t5 : Four (w6.alloc (.cells #[.bool (decide (z.num < 0)), .slice A5 l5.length c5, .bool false, .slice B5 m5.length d5] 26)) w6.heap.size (.bool (decide (z.num < 0))) (.slice A5 l5.length c5) (.bool false) (.slice B5 m5.length d5) := Four.new_ w6 (.bool (decide (z.num < 0))) (.slice A5 l5.length c5) (.bool false) (.slice B5 m5.length d5) 26
  have bn : Below w6.heap.size w6 (w6.alloc (.cells #[.bool (decide (z.num < 0)), .slice A5 l5.length c5, .bool false, .slice B5 m5.length d5] 26)) := (Below.refl _ _).alloc (Nat.le_refl _) _
  replace t1 := t1.below bn t1.lt
  replace bel := bel.trans (bn.mono bel.size)
  replace t2 := t2.below bn t2.lt
  replace t3 := t3.below bn t3.lt
  replace E4 := E4.below bn
  replace t4 := t4.below bn t4.lt
  replace E5 := E5.below bn
  clear bn
  generalize (w6.alloc (.cells #[.bool (decide (z.num < 0)), .slice A5 l5.length c5, .bool false, .slice B5 m5.length d5] 26)) = v4 at t1 bel t2 t3 E4 t4 E5 t5 ⊢
  generalize w6.heap.size = g5 at t1 bel t2 t3 E4 t4 E5 t5 hg5 ⊢
  have t2_0 := t2.c0
  have t2_1 := t2.c1
  have t3_0 := t3.c0
  have t3_1 := t3.c1
  have t4_0 := t4.c0
  have t4_1 := t4.c1
  have t4_2 := t4.c2
  have t4_3 := t4.c3
  have t5_0 := t5.c0
  have t5_1 := t5.c1
  have t5_2 := t5.c2
  have t5_3 := t5.c3
  go_wp2_with fail
  refine (rsame E4 E5 (by decide) (by decide) rfl).mono ?_
  rintro e w7 ⟨rfl, hb⟩
  clear t2_0 t2_1 t3_0 t3_1 t4_0 t4_1 t4_2 t4_3 t5_0 t5_1 t5_2 t5_3
  replace t1 := t1.below hb t1.lt
  replace bel := bel.trans (hb.mono bel.size)
  replace t2 := t2.below hb t2.lt
  replace t3 := t3.below hb t3.lt
  replace E4 := E4.below hb
  replace t4 := t4.below hb t4.lt
  replace E5 := E5.below hb
  replace t5 := t5.below hb t5.lt
  clear hb
  go_upto_region 10 with (fail)
  have hg6 : g5 < w7.heap.size := t5.lt
  have t6 : Two (w7.alloc (.cells #[.int .i64 num, .int .i64 den] 47)) w7.heap.size (.int .i64 num) (.int .i64 den) := Two.new_ w7 (.int .i64 num) (.int .i64 den) 47
  have bn : Below w7.heap.size w7 (w7.alloc (.cells #[.int .i64 num, .int .i64 den] 47)) := (Below.refl _ _).alloc (Nat.le_refl _) _
  replace t1 := t1.below bn t1.lt
  replace bel := bel.trans (bn.mono bel.size)
  replace t2 := t2.below bn t2.lt
  replace t3 := t3.below bn t3.lt
  replace E4 := E4.below bn
  replace t4 := t4.below bn t4.lt
  replace E5 := E5.below bn
  replace t5 := t5.below bn t5.lt
  clear bn
  generalize (w7.alloc (.cells #[.int .i64 num, .int .i64 den] 47)) = v5 at t1 bel t2 t3 E4 t4 E5 t5 t6 ⊢
  generalize w7.heap.size = g6 at t1 bel t2 t3 E4 t4 E5 t5 t6 hg6 ⊢
  replace t1 := t1.drew
  replace bel := bDrew1 bel
  replace t2 := t2.drew
  replace t3 := t3.drew
  replace E4 := E4.drew
  replace t4 := t4.drew
  replace E5 := E5.drew
  replace t5 := t5.drew
  replace t6 := t6.drew
  go_region_held3 (fun w' => w'.cell? ⟨w.heap.size, 0, none⟩ = some (.int .i64 a) ∧ w'.cell? ⟨w.heap.size, 1, none⟩ = some (.int .i64 b) ∧ w'.cell? ⟨g2, 0, none⟩ = some (.int .i64 u) ∧ w'.cell? ⟨g2, 1, none⟩ = some (.int .i64 v) ∧ w'.cell? ⟨g6, 0, none⟩ = some (.int .i64 num) ∧ w'.cell? ⟨g6, 1, none⟩ = some (.int .i64 den))
    (with_reducible exact ⟨t1.c0, t1.c1, t2.c0, t2.c1, t6.c0, t6.c1⟩)
    (first
      | (go_at_call 42; (with_reducible refine (HL1.out _).mono ?_); rintro e wa ⟨rfl, hb⟩; replace t1 := t1.below hb t1.lt; replace bel := bel.trans (hb.mono bel.size); replace t2 := t2.below hb t2.lt; replace t3 := t3.below hb t3.lt; replace E4 := E4.below hb; replace t4 := t4.below hb t4.lt; replace E5 := E5.below hb; replace t5 := t5.below hb t5.lt; replace t6 := t6.below hb t6.lt; clear hb)
      | (go_at_call 42; (with_reducible refine (HL3.out _).mono ?_); rintro e wa ⟨rfl, hb⟩; replace t1 := t1.below hb t1.lt; replace bel := bel.trans (hb.mono bel.size); replace t2 := t2.below hb t2.lt; replace t3 := t3.below hb t3.lt; replace E4 := E4.below hb; replace t4 := t4.below hb t4.lt; replace E5 := E5.below hb; replace t5 := t5.below hb t5.lt; replace t6 := t6.below hb t6.lt; clear hb)
      | (go_at_call 42; (with_reducible refine (HL5.out _).mono ?_); rintro e wa ⟨rfl, hb⟩; replace t1 := t1.below hb t1.lt; replace bel := bel.trans (hb.mono bel.size); replace t2 := t2.below hb t2.lt; replace t3 := t3.below hb t3.lt; replace E4 := E4.below hb; replace t4 := t4.below hb t4.lt; replace E5 := E5.below hb; replace t5 := t5.below hb t5.lt; replace t6 := t6.below hb t6.lt; clear hb)
      | (go_at_call 43; (with_reducible refine (HL2.out _).mono ?_); rintro e wa ⟨rfl, hb⟩; replace t1 := t1.below hb t1.lt; replace bel := bel.trans (hb.mono bel.size); replace t2 := t2.below hb t2.lt; replace t3 := t3.below hb t3.lt; replace E4 := E4.below hb; replace t4 := t4.below hb t4.lt; replace E5 := E5.below hb; replace t5 := t5.below hb t5.lt; replace t6 := t6.below hb t6.lt; clear hb)
      | (go_at_call 43; (with_reducible refine (HL4.out _).mono ?_); rintro e wa ⟨rfl, hb⟩; replace t1 := t1.below hb t1.lt; replace bel := bel.trans (hb.mono bel.size); replace t2 := t2.below hb t2.lt; replace t3 := t3.below hb t3.lt; replace E4 := E4.below hb; replace t4 := t4.below hb t4.lt; replace E5 := E5.below hb; replace t5 := t5.below hb t5.lt; replace t6 := t6.below hb t6.lt; clear hb))
  go_wp2_with fail
  go_ret
  exact ⟨rfl, bel⟩

set_option maxRecDepth 100000 in
set_option maxHeartbeats 3000000 in
theorem frac_bad (num den a b u v k : Int) (w : World) (hn : -9223372036854775808 ≤ num ∧ num ≤ 9223372036854775807) (hd : -9223372036854775808 ≤ den ∧ den ≤ 9223372036854775807) (ha : -9223372036854775808 ≤ a ∧ a ≤ 9223372036854775807) (hb : -9223372036854775808 ≤ b ∧ b ≤ 9223372036854775807) (hu : -9223372036854775808 ≤ u ∧ u ≤ 9223372036854775807) (hv : -9223372036854775808 ≤ v ∧ v ≤ 9223372036854775807) (r1 : ∀ W : World, Calls Tryz.prog 38 #[.int .i64 num, .int .i64 den] W fun e w' => e = .returned (.tuple #[.agg #[.int .i64 u, .int .i64 v], .int .i64 k]) ∧ Below W.heap.size W w') (r2 : ∀ W : World, Calls Tryz.prog 39 #[.int .i64 num, .int .i64 den] W fun e w' => e = .returned (.tuple #[.agg #[.int .i64 u, .int .i64 v], .int .i64 k]) ∧ Below W.heap.size W w') (ht : Tabs w) (mx : Mx w) (hv0 : ¬ (0 ≤ a ∧ 1 ≤ b)) :
    Calls Tryz.prog 10 #[.int .i64 num, .int .i64 den, .agg #[.int .i64 a, .int .i64 b]] w fun e w' => e = .returned (.bool true) ∧ Below w.heap.size w w' := by
  have HR1 := Lib.hid r1
  have HR2 := Lib.hid r2
  obtain ⟨F1, hF1⟩ : ∃ F, F = lessF u v a b := ⟨_, rfl⟩
  obtain ⟨F2, hF2⟩ : ∃ F, F = lessF a b num den := ⟨_, rfl⟩
  have bF1 : (F1 == F1) = true := beq_self_eq_true F1
  have bF2 : (F2 == F2) = true := beq_self_eq_true F2
  have HL1 := Lib.hid (fun (W : World) => (by have h := less_any u v a b hu.2 hv.2 ha.2 hb.2 W; rw [← hF1] at h; exact h : Calls Tryz.prog 42 #[.agg #[.int .i64 u, .int .i64 v], .agg #[.int .i64 a, .int .i64 b]] W fun e w' => e = .returned (.bool F1) ∧ Below W.heap.size W w'))
  have HL2 := Lib.hid (fun (W : World) => (by have h := rless_any u v a b hu hv ha hb W; rw [← hF1] at h; exact h : Calls Tryz.prog 43 #[.agg #[.int .i64 u, .int .i64 v], .agg #[.int .i64 a, .int .i64 b]] W fun e w' => e = .returned (.bool F1) ∧ Below W.heap.size W w'))
  have HL3 := Lib.hid (fun (W : World) => (by have h := less_any a b num den ha.2 hb.2 hn.2 hd.2 W; rw [← hF2] at h; exact h : Calls Tryz.prog 42 #[.agg #[.int .i64 a, .int .i64 b], .agg #[.int .i64 num, .int .i64 den]] W fun e w' => e = .returned (.bool F2) ∧ Below W.heap.size W w'))
  have HL4 := Lib.hid (fun (W : World) => (by have h := rless_any a b num den ha hb hn hd W; rw [← hF2] at h; exact h : Calls Tryz.prog 43 #[.agg #[.int .i64 a, .int .i64 b], .agg #[.int .i64 num, .int .i64 den]] W fun e w' => e = .returned (.bool F2) ∧ Below W.heap.size W w'))
  have HL5 := Lib.hid (fun (W : World) => (by have h := less_any a b a b ha.2 hb.2 ha.2 hb.2 W; rw [lessF_self] at h; exact h : Calls Tryz.prog 42 #[.agg #[.int .i64 a, .int .i64 b], .agg #[.int .i64 a, .int .i64 b]] W fun e w' => e = .returned (.bool false) ∧ Below W.heap.size W w'))
  have HX1 := Lib.hid (fun (W : World) => (ff_bad a b hv0 W : Calls Tryz.prog 40 #[.agg #[.int .i64 a, .int .i64 b]] W fun e w' => e = .returned (.tuple #[.agg #[.bool false, .slice none 0 0, .bool false, .slice none 0 0], .int .i64 3]) ∧ Below W.heap.size W w'))
  have HX2 := Lib.hid (fun (W : World) => (rff_bad a b hv0 W : Calls Tryz.prog 41 #[.agg #[.int .i64 a, .int .i64 b]] W fun e w' => e = .returned (.tuple #[.agg #[.bool false, .slice none 0 0, .bool false, .slice none 0 0], .int .i64 3]) ∧ Below W.heap.size W w'))
  have HS0 : Hid (∀ W : World, Calls Tryz.prog 14 #[.agg #[.bool false, .slice none 0 0, .bool false, .slice none 0 0], .agg #[.bool false, .slice none 0 0, .bool false, .slice none 0 0]] W fun e w' => e = .returned (.bool true) ∧ Below W.heap.size W w') := Lib.hid (fun W => same_raw (Sl.nil _ _) (Sl.nil _ _) (Sl.nil _ _) (Sl.nil _ _) (by decide) (by decide) (by decide) (by decide))
  clear r1 r2 hF1 hF2 hn hd ha hb hu hv hv0
  go_enter Tryz.func10, Tryz.ntmps10
  go_wp2_with fail
  have t1 : Two (w.alloc (.cells #[.int .i64 a, .int .i64 b] 47)) w.heap.size (.int .i64 a) (.int .i64 b) := Two.new_ w (.int .i64 a) (.int .i64 b) 47
  have bel : Below w.heap.size w (w.alloc (.cells #[.int .i64 a, .int .i64 b] 47)) := (Below.refl _ _).alloc (Nat.le_refl _) _
  generalize (w.alloc (.cells #[.int .i64 a, .int .i64 b] 47)) = wx at t1 bel ⊢
  refine (rknown_ok _ (ht.below bel) (mx.below_ bel)).mono ?_
  rintro e w2 ⟨rfl, hb⟩
  replace t1 := t1.below hb t1.lt
  replace bel := bel.trans (hb.mono bel.size)
  clear hb
  clear ht mx
  go_wp2_with fail
  refine (HR1.out _).mono ?_
  rintro e w3 ⟨rfl, hb⟩
  replace t1 := t1.below hb t1.lt
  replace bel := bel.trans (hb.mono bel.size)
  clear hb
  go_upto_region 4 with (fail)
  have hg2 : w.heap.size < w3.heap.size := t1.lt
  have t2 : Two (w3.alloc (.cells #[.int .i64 u, .int .i64 v] 47)) w3.heap.size (.int .i64 u) (.int .i64 v) := Two.new_ w3 (.int .i64 u) (.int .i64 v) 47
  have bn : Below w3.heap.size w3 (w3.alloc (.cells #[.int .i64 u, .int .i64 v] 47)) := (Below.refl _ _).alloc (Nat.le_refl _) _
  replace t1 := t1.below bn t1.lt
  replace bel := bel.trans (bn.mono bel.size)
  clear bn
  generalize (w3.alloc (.cells #[.int .i64 u, .int .i64 v] 47)) = v1 at t1 bel t2 ⊢
  generalize w3.heap.size = g2 at t1 bel t2 hg2 ⊢
  go_wp2_with fail
  refine (HR2.out _).mono ?_
  rintro e w4 ⟨rfl, hb⟩
  replace t1 := t1.below hb t1.lt
  replace bel := bel.trans (hb.mono bel.size)
  replace t2 := t2.below hb t2.lt
  clear hb
  go_upto_region 5 with (fail)
  have hg3 : g2 < w4.heap.size := t2.lt
  have t3 : Two (w4.alloc (.cells #[.int .i64 u, .int .i64 v] 47)) w4.heap.size (.int .i64 u) (.int .i64 v) := Two.new_ w4 (.int .i64 u) (.int .i64 v) 47
  have bn : Below w4.heap.size w4 (w4.alloc (.cells #[.int .i64 u, .int .i64 v] 47)) := (Below.refl _ _).alloc (Nat.le_refl _) _
  replace t1 := t1.below bn t1.lt
  replace bel := bel.trans (bn.mono bel.size)
  replace t2 := t2.below bn t2.lt
  clear bn
  generalize (w4.alloc (.cells #[.int .i64 u, .int .i64 v] 47)) = v2 at t1 bel t2 t3 ⊢
  generalize w4.heap.size = g3 at t1 bel t2 t3 hg3 ⊢
  have t1_0 := t1.c0
  have t1_1 := t1.c1
  go_wp2_with fail
  refine (HX1.out _).mono ?_
  rintro e w5 ⟨rfl, hb⟩
  clear t1_0 t1_1
  replace t1 := t1.below hb t1.lt
  replace bel := bel.trans (hb.mono bel.size)
  replace t2 := t2.below hb t2.lt
  replace t3 := t3.below hb t3.lt
  clear hb
  go_upto_region 6 with (fail)
  have hg4 : g3 < w5.heap.size := t3.lt
  have t4 : Four (w5.alloc (.cells #[.bool false, .slice none 0 0, .bool false, .slice none 0 0] 26)) w5.heap.size (.bool false) (.slice none 0 0) (.bool false) (.slice none 0 0) := Four.new_ w5 (.bool false) (.slice none 0 0) (.bool false) (.slice none 0 0) 26
  have bn : Below w5.heap.size w5 (w5.alloc (.cells #[.bool false, .slice none 0 0, .bool false, .slice none 0 0] 26)) := (Below.refl _ _).alloc (Nat.le_refl _) _
  replace t1 := t1.below bn t1.lt
  replace bel := bel.trans (bn.mono bel.size)
  replace t2 := t2.below bn t2.lt
  replace t3 := t3.below bn t3.lt
  clear bn
  generalize (w5.alloc (.cells #[.bool false, .slice none 0 0, .bool false, .slice none 0 0] 26)) = v3 at t1 bel t2 t3 t4 ⊢
  generalize w5.heap.size = g4 at t1 bel t2 t3 t4 hg4 ⊢
  have t1_0 := t1.c0
  have t1_1 := t1.c1
  go_wp2_with fail
  refine (HX2.out _).mono ?_
  rintro e w6 ⟨rfl, hb⟩
  clear t1_0 t1_1
  replace t1 := t1.below hb t1.lt
  replace bel := bel.trans (hb.mono bel.size)
  replace t2 := t2.below hb t2.lt
  replace t3 := t3.below hb t3.lt
  replace t4 := t4.below hb t4.lt
  clear hb
  go_upto_region 7 with (fail)
  have hg5 : g4 < w6.heap.size := t4.lt
  have t5 : Four (w6.alloc (.cells #[.bool false, .slice none 0 0, .bool false, .slice none 0 0] 26)) w6.heap.size (.bool false) (.slice none 0 0) (.bool false) (.slice none 0 0) := Four.new_ w6 (.bool false) (.slice none 0 0) (.bool false) (.slice none 0 0) 26
  have bn : Below w6.heap.size w6 (w6.alloc (.cells #[.bool false, .slice none 0 0, .bool false, .slice none 0 0] 26)) := (Below.refl _ _).alloc (Nat.le_refl _) _
  replace t1 := t1.below bn t1.lt
  replace bel := bel.trans (bn.mono bel.size)
  replace t2 := t2.below bn t2.lt
  replace t3 := t3.below bn t3.lt
  replace t4 := t4.below bn t4.lt
  clear bn
  generalize (w6.alloc (.cells #[.bool false, .slice none 0 0, .bool false, .slice none 0 0] 26)) = v4 at t1 bel t2 t3 t4 t5 ⊢
  generalize w6.heap.size = g5 at t1 bel t2 t3 t4 t5 hg5 ⊢
  have t2_0 := t2.c0
  have t2_1 := t2.c1
  have t3_0 := t3.c0
  have t3_1 := t3.c1
  have t4_0 := t4.c0
  have t4_1 := t4.c1
  have t4_2 := t4.c2
  have t4_3 := t4.c3
  have t5_0 := t5.c0
  have t5_1 := t5.c1
  have t5_2 := t5.c2
  have t5_3 := t5.c3
  go_wp2_with fail
  refine (HS0.out _).mono ?_
  rintro e w7 ⟨rfl, hb⟩
  clear t2_0 t2_1 t3_0 t3_1 t4_0 t4_1 t4_2 t4_3 t5_0 t5_1 t5_2 t5_3
  replace t1 := t1.below hb t1.lt
  replace bel := bel.trans (hb.mono bel.size)
  replace t2 := t2.below hb t2.lt
  replace t3 := t3.below hb t3.lt
  replace t4 := t4.below hb t4.lt
  replace t5 := t5.below hb t5.lt
  clear hb
  go_upto_region 10 with (fail)
  have hg6 : g5 < w7.heap.size := t5.lt
  have t6 : Two (w7.alloc (.cells #[.int .i64 num, .int .i64 den] 47)) w7.heap.size (.int .i64 num) (.int .i64 den) := Two.new_ w7 (.int .i64 num) (.int .i64 den) 47
  have bn : Below w7.heap.size w7 (w7.alloc (.cells #[.int .i64 num, .int .i64 den] 47)) := (Below.refl _ _).alloc (Nat.le_refl _) _
  replace t1 := t1.below bn t1.lt
  replace bel := bel.trans (bn.mono bel.size)
  replace t2 := t2.below bn t2.lt
  replace t3 := t3.below bn t3.lt
  replace t4 := t4.below bn t4.lt
  replace t5 := t5.below bn t5.lt
  clear bn
  generalize (w7.alloc (.cells #[.int .i64 num, .int .i64 den] 47)) = v5 at t1 bel t2 t3 t4 t5 t6 ⊢
  generalize w7.heap.size = g6 at t1 bel t2 t3 t4 t5 t6 hg6 ⊢
  replace t1 := t1.drew
  replace bel := bDrew1 bel
  replace t2 := t2.drew
  replace t3 := t3.drew
  replace t4 := t4.drew
  replace t5 := t5.drew
  replace t6 := t6.drew
  go_region_held3 (fun w' => w'.cell? ⟨w.heap.size, 0, none⟩ = some (.int .i64 a) ∧ w'.cell? ⟨w.heap.size, 1, none⟩ = some (.int .i64 b) ∧ w'.cell? ⟨g2, 0, none⟩ = some (.int .i64 u) ∧ w'.cell? ⟨g2, 1, none⟩ = some (.int .i64 v) ∧ w'.cell? ⟨g6, 0, none⟩ = some (.int .i64 num) ∧ w'.cell? ⟨g6, 1, none⟩ = some (.int .i64 den))
    (with_reducible exact ⟨t1.c0, t1.c1, t2.c0, t2.c1, t6.c0, t6.c1⟩)
    (first
      | (go_at_call 42; (with_reducible refine (HL1.out _).mono ?_); rintro e wa ⟨rfl, hb⟩; replace t1 := t1.below hb t1.lt; replace bel := bel.trans (hb.mono bel.size); replace t2 := t2.below hb t2.lt; replace t3 := t3.below hb t3.lt; replace t4 := t4.below hb t4.lt; replace t5 := t5.below hb t5.lt; replace t6 := t6.below hb t6.lt; clear hb)
      | (go_at_call 42; (with_reducible refine (HL3.out _).mono ?_); rintro e wa ⟨rfl, hb⟩; replace t1 := t1.below hb t1.lt; replace bel := bel.trans (hb.mono bel.size); replace t2 := t2.below hb t2.lt; replace t3 := t3.below hb t3.lt; replace t4 := t4.below hb t4.lt; replace t5 := t5.below hb t5.lt; replace t6 := t6.below hb t6.lt; clear hb)
      | (go_at_call 42; (with_reducible refine (HL5.out _).mono ?_); rintro e wa ⟨rfl, hb⟩; replace t1 := t1.below hb t1.lt; replace bel := bel.trans (hb.mono bel.size); replace t2 := t2.below hb t2.lt; replace t3 := t3.below hb t3.lt; replace t4 := t4.below hb t4.lt; replace t5 := t5.below hb t5.lt; replace t6 := t6.below hb t6.lt; clear hb)
      | (go_at_call 43; (with_reducible refine (HL2.out _).mono ?_); rintro e wa ⟨rfl, hb⟩; replace t1 := t1.below hb t1.lt; replace bel := bel.trans (hb.mono bel.size); replace t2 := t2.below hb t2.lt; replace t3 := t3.below hb t3.lt; replace t4 := t4.below hb t4.lt; replace t5 := t5.below hb t5.lt; replace t6 := t6.below hb t6.lt; clear hb)
      | (go_at_call 43; (with_reducible refine (HL4.out _).mono ?_); rintro e wa ⟨rfl, hb⟩; replace t1 := t1.below hb t1.lt; replace bel := bel.trans (hb.mono bel.size); replace t2 := t2.below hb t2.lt; replace t3 := t3.below hb t3.lt; replace t4 := t4.below hb t4.lt; replace t5 := t5.below hb t5.lt; replace t6 := t6.below hb t6.lt; clear hb))
  go_wp2_with fail
  go_ret
  exact ⟨rfl, bel⟩
end Go.Proofs.YtpfaddgcfacgdaaGreatDoor
/- Walks of package rational: the reference: gcd, Reduce. -/
namespace Go.Proofs.YtpfaddgcfacgdaaGreatDoor
open Go.RowKit
set_option linter.unusedVariables false

set_option maxRecDepth 100000 in
set_option maxHeartbeats 1000000 in
theorem rgcd (a b : Nat) (w : World) : Calls Tryz.prog 72 #[.int .i64 (a : Int), .int .i64 (b : Int)] w fun e w' => e = .returned (.int .i64 ((Nat.gcd b a : Nat) : Int)) ∧ Below w.heap.size w w' := by
  obtain ⟨G, hG⟩ : ∃ G, Hid (Nat.gcd a b = G) := ⟨_, Lib.hid rfl⟩
  rw [Nat.gcd_comm b a, hG.out]
  go_enter Tryz.func72, Tryz.ntmps72
  go_wp2_with fail
  go_loopw [0, 1] (fun x y wr => ∃ u v : Nat, x = .int .i64 (u : Int) ∧ y = .int .i64 (v : Int) ∧ Below w.heap.size w wr ∧ Hid (Nat.gcd u v = G)) (fun _ y _ => (intOf y).toNat)
  case atStart => exact ⟨a, b, rfl, rfl, Below.refl _ _, hG⟩
  case round =>
    obtain ⟨u, v, rfl, rfl, b4, HI⟩ := hrel
    by_cases hv : v = 0
    · subst hv
      have hu : u = G := by have := HI.out; rwa [Nat.gcd_zero_right] at this
      subst hu
      clear HI
      go_wp2_with fail
      go_ret
      exact ⟨rfl, b4⟩
    · have g0 : (v : Int) ≠ 0 := by omega
      have g1 : ((v : Int) == 0) = false := beq_eq_false_iff_ne.2 g0
      have g2 : decide (0 < (v : Int)) = true := decide_eq_true (by omega)
      obtain ⟨m, hm⟩ : ∃ n : Nat, Hid (n = u % v) := ⟨_, Lib.hid rfl⟩
      have d1 : ((u : Int)).tmod (v : Int) = (m : Int) := by rw [hm.out]; exact (Int.ofNat_tmod _ _).symm
      have hmv : m < v := by rw [hm.out]; exact Nat.mod_lt _ (by omega)
      have HI2 : Hid (Nat.gcd v m = G) := Lib.hid (by rw [hm.out, ← HI.out, Nat.gcd_comm u v, Nat.gcd_rec v u, Nat.gcd_comm])
      clear HI
      go_wp2_with fail
      go_quiet (fail)
      go_wp2_with fail
      go_roundw
      case rel => exact ⟨v, m, rfl, rfl, bDrew b4 _, HI2⟩
      case measure => simp [intOf]; omega

set_option maxRecDepth 100000 in
set_option maxHeartbeats 2000000 in
theorem rreduce_bad (a b : Int) (h : ¬ (0 ≤ a ∧ 1 ≤ b)) (w : World) : Calls Tryz.prog 39 #[.int .i64 a, .int .i64 b] w (FrRes 0 0 3 w) := by
  have hq : decide (a < 0) = true ∨ (decide (a < 0) = false ∧ decide (b < 1) = true) := by
    by_cases h1 : a < 0
    · exact Or.inl (decide_eq_true h1)
    · exact Or.inr ⟨decide_eq_false h1, decide_eq_true (by omega)⟩
  clear h
  go_enter Tryz.func39, Tryz.ntmps39
  rcases hq with q1 | ⟨q1, q2⟩
  all_goals
    go_wp2_with fail
    have t3 : Two (w.alloc (.cells #[.int .i64 0, .int .i64 0] 47)) w.heap.size (.int .i64 0) (.int .i64 0) := Two.new_ _ _ _ _
    have bel := al1 w (.cells #[.int .i64 0, .int .i64 0] 47)
    generalize w.alloc (.cells #[.int .i64 0, .int .i64 0] 47) = wx at t3 bel ⊢
    have c0 := t3.c0
    have c1 := t3.c1
    refine bodyPost_ret (v := .tuple #[.agg #[.int .i64 0, .int .i64 0], .int .i64 3]) (by simp [results, Tryz.results39, go_sem, c0, c1]) rfl ?_
    exact ⟨rfl, bel⟩

set_option maxRecDepth 100000 in
set_option maxHeartbeats 2000000 in
theorem rreduce_ok (a b : Nat) (ha : a ≤ 9223372036854775807) (hb : b ≤ 9223372036854775807) (h1 : 1 ≤ b) (w : World) : Calls Tryz.prog 39 #[.int .i64 (a : Int), .int .i64 (b : Int)] w (FrRes ((a / Nat.gcd b a : Nat) : Int) ((b / Nat.gcd b a : Nat) : Int) 0 w) := by
  have HGC := Lib.hid (fun W => rgcd a b W)
  obtain ⟨G, hG⟩ : ∃ G, Hid (Nat.gcd b a = G) := ⟨_, Lib.hid rfl⟩
  have hG0 : 0 < G := by rw [← hG.out]; exact Nat.gcd_pos_of_pos_left _ (by omega)
  rw [hG.out]
  have HGC2 : Hid (∀ W : World, Calls Tryz.prog 72 #[.int .i64 (a : Int), .int .i64 (b : Int)] W fun e w' => e = .returned (.int .i64 (G : Int)) ∧ Below W.heap.size W w') := Lib.hid (fun W => by have h := HGC.out W; rwa [hG.out] at h)
  clear HGC
  obtain ⟨A1, hA1⟩ : ∃ n : Nat, n = a / G := ⟨_, rfl⟩
  obtain ⟨B1, hB1⟩ : ∃ n : Nat, n = b / G := ⟨_, rfl⟩
  rw [← hA1, ← hB1]
  have d1 : ((a : Int)).tdiv (G : Int) = (A1 : Int) := by rw [hA1]; exact (Int.ofNat_tdiv _ _).symm
  have d2 : ((b : Int)).tdiv (G : Int) = (B1 : Int) := by rw [hB1]; exact (Int.ofNat_tdiv _ _).symm
  have w1 : IntKind.i64.wrap (A1 : Int) = (A1 : Int) := IntWalk.i64_in _ (by have := Nat.div_le_self a G; omega)
  have w2' : IntKind.i64.wrap (B1 : Int) = (B1 : Int) := IntWalk.i64_in _ (by have := Nat.div_le_self b G; omega)
  have g0 : (G : Int) ≠ 0 := by omega
  have g1 : ((G : Int) == 0) = false := beq_eq_false_iff_ne.2 g0
  have q1 : decide ((a : Int) < 0) = false := decide_eq_false (by omega)
  have q2 : decide ((b : Int) < 1) = false := decide_eq_false (by omega)
  clear hA1 hB1 hG0 ha hb h1
  go_enter Tryz.func39, Tryz.ntmps39
  go_wp2_with fail
  have t3 : Two (w.alloc (.cells #[.int .i64 0, .int .i64 0] 47)) w.heap.size (.int .i64 0) (.int .i64 0) := Two.new_ _ _ _ _
  have bel := al1 w (.cells #[.int .i64 0, .int .i64 0] 47)
  generalize w.alloc (.cells #[.int .i64 0, .int .i64 0] 47) = wx at t3 bel ⊢
  refine (HGC2.out _).mono ?_
  rintro e wz ⟨rfl, hb⟩
  replace t4 := t3.below hb t3.lt
  replace b4 := bel.trans (hb.mono bel.size)
  clear t3 bel hb
  have t5 := t4.drew
  have b5 := bDrew1 b4
  have c0 := t4.c0
  have c1 := t4.c1
  have f0 := t4.fr 0
  have f1 := t4.fr 1
  have c2 := t5.c0
  have c3 := t5.c1
  have f2 := t5.fr 0
  have f3 := t5.fr 1
  have R := Lib.hid (World.cell?_setCell_same wz _ (.int .i64 (A1 : Int)) c0)
  have R2 := Lib.hid ((t4.put2 (.int .i64 (A1 : Int)) (.int .i64 (B1 : Int))).c1)
  have BL := Lib.hid (below_set2 b4 (b := w.heap.size) (by omega) (.int .i64 (A1 : Int)) (.int .i64 (B1 : Int)))
  clear t4 t5 b4 b5
  go_wp2_with fail
  go_region
  go_wp2_with fail
  have r0 := R.out
  have r1 := R2.out
  unfold set2 at r1
  refine bodyPost_ret (v := .tuple #[.agg #[.int .i64 (A1 : Int), .int .i64 (B1 : Int)], .int .i64 0]) (by simp [results, Tryz.results39, go_sem, r0, r1]) rfl ?_
  exact ⟨rfl, by first | exact BL.out | exact bDrew1 BL.out⟩
end Go.Proofs.YtpfaddgcfacgdaaGreatDoor
/- Walks of package rational: RationalFrac, the law. -/
namespace Go.Proofs.YtpfaddgcfacgdaaGreatDoor
open Go.RowKit
set_option linter.unusedVariables false

theorem frac_walk (num den a b : Int) (w : World) (hn : -9223372036854775808 ≤ num ∧ num ≤ 9223372036854775807) (hd : -9223372036854775808 ≤ den ∧ den ≤ 9223372036854775807) (ha : -9223372036854775808 ≤ a ∧ a ≤ 9223372036854775807) (hb : -9223372036854775808 ≤ b ∧ b ≤ 9223372036854775807) (ht : Tabs w) (mx : Mx w) :
    Calls Tryz.prog 10 #[.int .i64 num, .int .i64 den, .agg #[.int .i64 a, .int .i64 b]] w fun e w' => e = .returned (.bool true) ∧ Below w.heap.size w w' := by
  have key : ∀ u v k : Int, (-9223372036854775808 ≤ u ∧ u ≤ 9223372036854775807) → (-9223372036854775808 ≤ v ∧ v ≤ 9223372036854775807) → (∀ W, Calls Tryz.prog 38 #[.int .i64 num, .int .i64 den] W (FrRes u v k W)) → (∀ W, Calls Tryz.prog 39 #[.int .i64 num, .int .i64 den] W (FrRes u v k W)) → Calls Tryz.prog 10 #[.int .i64 num, .int .i64 den, .agg #[.int .i64 a, .int .i64 b]] w fun e w' => e = .returned (.bool true) ∧ Below w.heap.size w w' := by
    intro u v k hu hv r1 r2
    by_cases h0 : 0 ≤ a ∧ 1 ≤ b
    · exact frac_ok num den a b u v k w hn hd ha hb hu hv r1 r2 ht mx h0
    · exact frac_bad num den a b u v k w hn hd ha hb hu hv r1 r2 ht mx h0
  by_cases h1 : 0 ≤ num ∧ 1 ≤ den
  · obtain ⟨N, rfl⟩ := Int.eq_ofNat_of_zero_le h1.1
    obtain ⟨D, rfl⟩ := Int.eq_ofNat_of_zero_le (show 0 ≤ den by omega)
    have b1 : N ≤ 9223372036854775807 := by omega
    have b2 : D ≤ 9223372036854775807 := by omega
    have b3 : 1 ≤ D := by omega
    have e1 := Nat.div_le_self N (Nat.gcd D N)
    have e2 := Nat.div_le_self D (Nat.gcd D N)
    have fz : ∀ n : Nat, n ≤ 9223372036854775807 → (-9223372036854775808 ≤ (n : Int) ∧ (n : Int) ≤ 9223372036854775807) := fun n h => by omega
    exact key _ _ 0 (fz _ (Nat.le_trans e1 b1)) (fz _ (Nat.le_trans e2 b2)) (fun W => reduce_ok N D b1 b2 b3 W) (fun W => rreduce_ok N D b1 b2 b3 W)
  · exact key 0 0 3 (by decide) (by decide) (fun W => reduce_bad num den h1 W) (fun W => rreduce_bad num den h1 W)
end Go.Proofs.YtpfaddgcfacgdaaGreatDoor
