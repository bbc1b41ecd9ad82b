/- My texts, packed: F2, F3, LawField. -/
import Derived.Test.YtpfaddgcfacgdaaGreatDoorPk14
import Derived.Test.YtpfaddgcfacgdaaGreatDoorPl1
/- Walks of package rational: RationalField, the second one not zero. -/
namespace Go.Proofs.YtpfaddgcfacgdaaGreatDoor
open Go.RowKit
set_option linter.unusedVariables false

set_option maxRecDepth 100000 in
set_option maxHeartbeats 3000000 in
theorem field_ok (p1 : Bool) (A1 : Option Addr) (l1 : List Nat) (c1 : Nat) (q1 : Bool) (B1 : Option Addr) (m1 : List Nat) (d1 : Nat) (p2 : Bool) (A2 : Option Addr) (l2 : List Nat) (c2 : Nat) (q2 : Bool) (B2 : Option Addr) (m2 : List Nat) (d2 : Nat) (p3 : Bool) (A3 : Option Addr) (l3 : List Nat) (c3 : Nat) (q3 : Bool) (B3 : Option Addr) (m3 : List Nat) (d3 : Nat) {z1 z2 z3 : Rat} (w : World) (h1 : Rv w p1 A1 c1 l1 q1 B1 d1 m1 z1 4) (h2 : Rv w p2 A2 c2 l2 q2 B2 d2 m2 z2 4) (h3 : Rv w p3 A3 c3 l3 q3 B3 d3 m3 z3 4) (ht : Tabs w) (mx : Mx w) (f1 : decide (l1.length ≤ 4 ∧ m1.length ≤ 4) = true) (f2 : decide (l2.length ≤ 4 ∧ m2.length ≤ 4) = true) (f3 : decide (l3.length ≤ 4 ∧ m3.length ≤ 4) = true) (h0 : z2 ≠ 0) :
    Calls Tryz.prog 7 #[ratV p1 A1 l1.length c1 q1 B1 m1.length d1, ratV p2 A2 l2.length c2 q2 B2 m2.length d2, ratV p3 A3 l3.length c3 q3 B3 m3.length d3] w fun e w' => e = .returned (.bool true) ∧ Below w.heap.size w w' := by
  have HQ1 := Lib.hid (Rat.add_comm z1 z2)
  have HQ2 := Lib.hid (Rat.mul_comm z1 z2)
  have HQ3 := Lib.hid (Rat.add_assoc z1 z2 z3)
  have HQ4 := Lib.hid (Rat.mul_assoc z1 z2 z3)
  have HQ5 := Lib.hid (Rat.mul_add z1 z2 z3)
  have HQ6 : Hid (z1 + z2 - z2 = z1) := Lib.hid (by grind)
  have HZ := Lib.hid h0
  have HQ7 : Hid (z1 / z2 * z2 = z1) := Lib.hid (by grind)
  obtain ⟨s, hs⟩ : ∃ s, s = z2.num.sign := ⟨_, rfl⟩
  have es : (s == 0) = false := by rw [beq_eq_false_iff_ne, hs]; exact fun e => h0 (Rat.num_eq_zero.1 (Int.sign_eq_zero_iff_zero.1 e))
  have HSG := Lib.hid (fun (W : World) (h : Rv W p2 A2 c2 l2 q2 B2 d2 m2 z2 4) => (by have h := rsgn h (by decide); rw [← hs] at h; exact h : Calls Tryz.prog 31 #[.agg #[.bool p2, .slice A2 l2.length c2, .bool q2, .slice B2 m2.length d2]] W fun e w' => e = .returned (.int .i64 s) ∧ Below W.heap.size W w'))
  clear h0 hs
  have HF1 := Lib.hid (fun (W : World) => gfew p1 A1 c1 l1.length q1 B1 d1 m1.length true (Lib.hid f1) W)
  have HF2 := Lib.hid (fun (W : World) => gfew p2 A2 c2 l2.length q2 B2 d2 m2.length true (Lib.hid f2) W)
  have HF3 := Lib.hid (fun (W : World) => gfew p3 A3 c3 l3.length q3 B3 d3 m3.length true (Lib.hid f3) W)
  clear f1 f2 f3
  unfold ratV
  go_enter Tryz.func7, Tryz.ntmps7
  go_wp2_with fail
  have t1 : Four (((w.alloc (.cells #[.bool p1, .slice A1 l1.length c1, .bool q1, .slice B1 m1.length d1] 26)).alloc (.cells #[.bool p2, .slice A2 l2.length c2, .bool q2, .slice B2 m2.length d2] 26)).alloc (.cells #[.bool p3, .slice A3 l3.length c3, .bool q3, .slice B3 m3.length d3] 26)) w.heap.size (.bool p1) (.slice A1 l1.length c1) (.bool q1) (.slice B1 m1.length d1) := ((Four.new_ w (.bool p1) (.slice A1 l1.length c1) (.bool q1) (.slice B1 m1.length d1) 26).alloc _).alloc _
  have t2 : Four (((w.alloc (.cells #[.bool p1, .slice A1 l1.length c1, .bool q1, .slice B1 m1.length d1] 26)).alloc (.cells #[.bool p2, .slice A2 l2.length c2, .bool q2, .slice B2 m2.length d2] 26)).alloc (.cells #[.bool p3, .slice A3 l3.length c3, .bool q3, .slice B3 m3.length d3] 26)) (w.heap.size + 1) (.bool p2) (.slice A2 l2.length c2) (.bool q2) (.slice B2 m2.length d2) := by simpa only [World.size_alloc, Nat.add_assoc, Nat.reduceAdd] using (Four.new_ (w.alloc (.cells #[.bool p1, .slice A1 l1.length c1, .bool q1, .slice B1 m1.length d1] 26)) (.bool p2) (.slice A2 l2.length c2) (.bool q2) (.slice B2 m2.length d2) 26).alloc _
  have t3 : Four (((w.alloc (.cells #[.bool p1, .slice A1 l1.length c1, .bool q1, .slice B1 m1.length d1] 26)).alloc (.cells #[.bool p2, .slice A2 l2.length c2, .bool q2, .slice B2 m2.length d2] 26)).alloc (.cells #[.bool p3, .slice A3 l3.length c3, .bool q3, .slice B3 m3.length d3] 26)) (w.heap.size + 2) (.bool p3) (.slice A3 l3.length c3) (.bool q3) (.slice B3 m3.length d3) := by simpa only [World.size_alloc, Nat.add_assoc, Nat.reduceAdd] using Four.new_ ((w.alloc (.cells #[.bool p1, .slice A1 l1.length c1, .bool q1, .slice B1 m1.length d1] 26)).alloc (.cells #[.bool p2, .slice A2 l2.length c2, .bool q2, .slice B2 m2.length d2] 26)) (.bool p3) (.slice A3 l3.length c3) (.bool q3) (.slice B3 m3.length d3) 26
  have bel : Below w.heap.size w (((w.alloc (.cells #[.bool p1, .slice A1 l1.length c1, .bool q1, .slice B1 m1.length d1] 26)).alloc (.cells #[.bool p2, .slice A2 l2.length c2, .bool q2, .slice B2 m2.length d2] 26)).alloc (.cells #[.bool p3, .slice A3 l3.length c3, .bool q3, .slice B3 m3.length d3] 26)) := (((Below.refl _ _).alloc (Nat.le_refl _) _).alloc (by simp only [World.size_alloc]; omega) _).alloc (by simp only [World.size_alloc]; omega) _
  generalize (((w.alloc (.cells #[.bool p1, .slice A1 l1.length c1, .bool q1, .slice B1 m1.length d1] 26)).alloc (.cells #[.bool p2, .slice A2 l2.length c2, .bool q2, .slice B2 m2.length d2] 26)).alloc (.cells #[.bool p3, .slice A3 l3.length c3, .bool q3, .slice B3 m3.length d3] 26)) = wx at t1 t2 t3 bel ⊢
  refine (rknown_ok _ (ht.below bel) (mx.below_ bel)).mono ?_
  rintro e w2 ⟨rfl, hb⟩
  replace t1 := t1.below hb t1.lt
  replace t2 := t2.below hb t2.lt
  replace t3 := t3.below hb t3.lt
  replace bel := bel.trans (hb.mono bel.size)
  clear hb
  have t1_0 := t1.c0
  have t1_1 := t1.c1
  have t1_2 := t1.c2
  have t1_3 := t1.c3
  go_wp2_with fail
  refine (HF1.out _).mono ?_
  rintro e w3 ⟨rfl, hb⟩
  clear t1_0 t1_1 t1_2 t1_3
  replace t1 := t1.below hb t1.lt
  replace t2 := t2.below hb t2.lt
  replace t3 := t3.below hb t3.lt
  replace bel := bel.trans (hb.mono bel.size)
  clear hb
  have t2_0 := t2.c0
  have t2_1 := t2.c1
  have t2_2 := t2.c2
  have t2_3 := t2.c3
  go_wp2_with fail
  refine (HF2.out _).mono ?_
  rintro e w4 ⟨rfl, hb⟩
  clear t2_0 t2_1 t2_2 t2_3
  replace t1 := t1.below hb t1.lt
  replace t2 := t2.below hb t2.lt
  replace t3 := t3.below hb t3.lt
  replace bel := bel.trans (hb.mono bel.size)
  clear hb
  have t3_0 := t3.c0
  have t3_1 := t3.c1
  have t3_2 := t3.c2
  have t3_3 := t3.c3
  go_wp2_with fail
  refine (HF3.out _).mono ?_
  rintro e w5 ⟨rfl, hb⟩
  clear t3_0 t3_1 t3_2 t3_3
  replace t1 := t1.below hb t1.lt
  replace t2 := t2.below hb t2.lt
  replace t3 := t3.below hb t3.lt
  replace bel := bel.trans (hb.mono bel.size)
  clear hb
  clear HF1 HF2 HF3
  have X1 := h1.below bel
  have t1_0 := t1.c0
  have t1_1 := t1.c1
  have t1_2 := t1.c2
  have t1_3 := t1.c3
  go_wp2_with fail
  refine (rcln X1 (by decide) (by decide)).mono ?_
  rintro e w6 ⟨A4, c4, l4, B4, d4, m4, rfl, X, hb⟩
  clear t1_0 t1_1 t1_2 t1_3
  replace t1 := t1.below hb t1.lt
  replace t2 := t2.below hb t2.lt
  replace t3 := t3.below hb t3.lt
  replace bel := bel.trans (hb.mono bel.size)
  clear hb
  clear X1
  have t1_0 := t1.c0
  have t1_1 := t1.c1
  have t1_2 := t1.c2
  have t1_3 := t1.c3
  have f0 := t1.fr 0
  have f1 := t1.fr 1
  have f2 := t1.fr 2
  have f3 := t1.fr 3
  go_upto_region 6 with (fail)
  clear f0 f1 f2 f3
  clear t1_0 t1_1 t1_2 t1_3
  replace t2 := t2.far4 (g := w.heap.size) (by omega) (.bool (decide (z1.num < 0))) (.slice A4 l4.length c4) (.bool false) (.slice B4 m4.length d4)
  replace t3 := t3.far4 (g := w.heap.size) (by omega) (.bool (decide (z1.num < 0))) (.slice A4 l4.length c4) (.bool false) (.slice B4 m4.length d4)
  replace bel := below_set4 bel (b := w.heap.size) (by omega) (.bool (decide (z1.num < 0))) (.slice A4 l4.length c4) (.bool false) (.slice B4 m4.length d4)
  replace X := X.put4 t1 (.bool (decide (z1.num < 0))) (.slice A4 l4.length c4) (.bool false) (.slice B4 m4.length d4)
  replace t1 := t1.put (.bool (decide (z1.num < 0))) (.slice A4 l4.length c4) (.bool false) (.slice B4 m4.length d4)
  dsimp only [set4] at t1 t2 t3 bel X
  generalize ((((w6.setCell ⟨w.heap.size, 0, none⟩ (.bool (decide (z1.num < 0)))).setCell ⟨w.heap.size, 1, none⟩ (.slice A4 l4.length c4)).setCell ⟨w.heap.size, 2, none⟩ (.bool false)).setCell ⟨w.heap.size, 3, none⟩ (.slice B4 m4.length d4)) = v1 at t1 t2 t3 bel X ⊢
  have Y := h2.below bel
  have Z := h3.below bel
  replace t1 := t1.drew
  replace t2 := t2.drew
  replace t3 := t3.drew
  replace bel := bDrew1 bel
  replace X := X.drew
  replace Y := Y.drew
  replace Z := Z.drew
  go_region_held3 (fun w' => w'.cell? ⟨w.heap.size, 0, none⟩ = some (.bool (decide (z1.num < 0))) ∧ w'.cell? ⟨w.heap.size, 1, none⟩ = some (.slice A4 l4.length c4) ∧ w'.cell? ⟨w.heap.size, 2, none⟩ = some (.bool false) ∧ w'.cell? ⟨w.heap.size, 3, none⟩ = some (.slice B4 m4.length d4) ∧ w'.cell? ⟨w.heap.size + 1, 0, none⟩ = some (.bool p2) ∧ w'.cell? ⟨w.heap.size + 1, 1, none⟩ = some (.slice A2 l2.length c2) ∧ w'.cell? ⟨w.heap.size + 1, 2, none⟩ = some (.bool q2) ∧ w'.cell? ⟨w.heap.size + 1, 3, none⟩ = some (.slice B2 m2.length d2))
    (with_reducible exact ⟨t1.c0, t1.c1, t1.c2, t1.c3, t2.c0, t2.c1, t2.c2, t2.c3⟩)
    (first
      | (go_at_call 23; (with_reducible refine (radd X.rv Y (by decide) (by decide) (by decide) (by decide)).mono ?_); rintro e wa ⟨A5, c5, l5, B5, d5, m5, rfl, E5, hb⟩; replace t1 := t1.below hb t1.lt; replace t2 := t2.below hb t2.lt; replace t3 := t3.below hb t3.lt; replace bel := bel.trans (hb.mono bel.size); replace X := X.below hb; replace Y := Y.below hb; replace Z := Z.below hb; clear hb)
      | (go_at_call 23; (with_reducible refine (radd Y X.rv (by decide) (by decide) (by decide) (by decide)).mono ?_); rintro e wa ⟨A6, c6, l6, B6, d6, m6, rfl, E6, hb⟩; replace t1 := t1.below hb t1.lt; replace t2 := t2.below hb t2.lt; replace t3 := t3.below hb t3.lt; replace bel := bel.trans (hb.mono bel.size); replace X := X.below hb; replace Y := Y.below hb; replace Z := Z.below hb; replace E5 := E5.below hb; clear hb)
      | (go_at_call 14; (with_reducible refine (rsame E5 E6 (by decide) (by decide) HQ1.out).mono ?_); rintro e wa ⟨rfl, hb⟩; replace t1 := t1.below hb t1.lt; replace t2 := t2.below hb t2.lt; replace t3 := t3.below hb t3.lt; replace bel := bel.trans (hb.mono bel.size); replace X := X.below hb; replace Y := Y.below hb; replace Z := Z.below hb; replace E5 := E5.below hb; replace E6 := E6.below hb; clear hb)
      | (go_at_call 27; (with_reducible refine (rmul X.rv Y (by decide) (by decide) (by decide) (by decide)).mono ?_); rintro e wa ⟨A7, c7, l7, B7, d7, m7, rfl, E7, hb⟩; replace t1 := t1.below hb t1.lt; replace t2 := t2.below hb t2.lt; replace t3 := t3.below hb t3.lt; replace bel := bel.trans (hb.mono bel.size); replace X := X.below hb; replace Y := Y.below hb; replace Z := Z.below hb; replace E5 := E5.below hb; replace E6 := E6.below hb; clear hb)
      | (go_at_call 27; (with_reducible refine (rmul Y X.rv (by decide) (by decide) (by decide) (by decide)).mono ?_); rintro e wa ⟨A8, c8, l8, B8, d8, m8, rfl, E8, hb⟩; replace t1 := t1.below hb t1.lt; replace t2 := t2.below hb t2.lt; replace t3 := t3.below hb t3.lt; replace bel := bel.trans (hb.mono bel.size); replace X := X.below hb; replace Y := Y.below hb; replace Z := Z.below hb; replace E5 := E5.below hb; replace E6 := E6.below hb; replace E7 := E7.below hb; clear hb)
      | (go_at_call 14; (with_reducible refine (rsame E7 E8 (by decide) (by decide) HQ2.out).mono ?_); rintro e wa ⟨rfl, hb⟩; replace t1 := t1.below hb t1.lt; replace t2 := t2.below hb t2.lt; replace t3 := t3.below hb t3.lt; replace bel := bel.trans (hb.mono bel.size); replace X := X.below hb; replace Y := Y.below hb; replace Z := Z.below hb; replace E5 := E5.below hb; replace E6 := E6.below hb; replace E7 := E7.below hb; replace E8 := E8.below hb; clear hb))
  clear E5 E6 E7 E8
  go_upto_region 8 with (fail)
  replace t1 := t1.drew
  replace t2 := t2.drew
  replace t3 := t3.drew
  replace bel := bDrew1 bel
  replace X := X.drew
  replace Y := Y.drew
  replace Z := Z.drew
  go_region_held3 (fun w' => w'.cell? ⟨w.heap.size, 0, none⟩ = some (.bool (decide (z1.num < 0))) ∧ w'.cell? ⟨w.heap.size, 1, none⟩ = some (.slice A4 l4.length c4) ∧ w'.cell? ⟨w.heap.size, 2, none⟩ = some (.bool false) ∧ w'.cell? ⟨w.heap.size, 3, none⟩ = some (.slice B4 m4.length d4) ∧ w'.cell? ⟨w.heap.size + 1, 0, none⟩ = some (.bool p2) ∧ w'.cell? ⟨w.heap.size + 1, 1, none⟩ = some (.slice A2 l2.length c2) ∧ w'.cell? ⟨w.heap.size + 1, 2, none⟩ = some (.bool q2) ∧ w'.cell? ⟨w.heap.size + 1, 3, none⟩ = some (.slice B2 m2.length d2) ∧ w'.cell? ⟨w.heap.size + 2, 0, none⟩ = some (.bool p3) ∧ w'.cell? ⟨w.heap.size + 2, 1, none⟩ = some (.slice A3 l3.length c3) ∧ w'.cell? ⟨w.heap.size + 2, 2, none⟩ = some (.bool q3) ∧ w'.cell? ⟨w.heap.size + 2, 3, none⟩ = some (.slice B3 m3.length d3))
    (with_reducible exact ⟨t1.c0, t1.c1, t1.c2, t1.c3, t2.c0, t2.c1, t2.c2, t2.c3, t3.c0, t3.c1, t3.c2, t3.c3⟩)
    (first
      | (go_at_call 23; (with_reducible refine (radd X.rv Y (by decide) (by decide) (by decide) (by decide)).mono ?_); rintro e wa ⟨A5, c5, l5, B5, d5, m5, rfl, E5, hb⟩; replace t1 := t1.below hb t1.lt; replace t2 := t2.below hb t2.lt; replace t3 := t3.below hb t3.lt; replace bel := bel.trans (hb.mono bel.size); replace X := X.below hb; replace Y := Y.below hb; replace Z := Z.below hb; clear hb)
      | (go_at_call 23; (with_reducible refine (radd E5.rv Z (by decide) (by decide) (by decide) (by decide)).mono ?_); rintro e wa ⟨A6, c6, l6, B6, d6, m6, rfl, E6, hb⟩; replace t1 := t1.below hb t1.lt; replace t2 := t2.below hb t2.lt; replace t3 := t3.below hb t3.lt; replace bel := bel.trans (hb.mono bel.size); replace X := X.below hb; replace Y := Y.below hb; replace Z := Z.below hb; replace E5 := E5.below hb; clear hb)
      | (go_at_call 23; (with_reducible refine (radd Y Z (by decide) (by decide) (by decide) (by decide)).mono ?_); rintro e wa ⟨A7, c7, l7, B7, d7, m7, rfl, E7, hb⟩; replace t1 := t1.below hb t1.lt; replace t2 := t2.below hb t2.lt; replace t3 := t3.below hb t3.lt; replace bel := bel.trans (hb.mono bel.size); replace X := X.below hb; replace Y := Y.below hb; replace Z := Z.below hb; replace E5 := E5.below hb; replace E6 := E6.below hb; clear hb)
      | (go_at_call 23; (with_reducible refine (radd X.rv E7.rv (by decide) (by decide) (by decide) (by decide)).mono ?_); rintro e wa ⟨A8, c8, l8, B8, d8, m8, rfl, E8, hb⟩; replace t1 := t1.below hb t1.lt; replace t2 := t2.below hb t2.lt; replace t3 := t3.below hb t3.lt; replace bel := bel.trans (hb.mono bel.size); replace X := X.below hb; replace Y := Y.below hb; replace Z := Z.below hb; replace E5 := E5.below hb; replace E6 := E6.below hb; replace E7 := E7.below hb; clear hb)
      | (go_at_call 14; (with_reducible refine (rsame E6 E8 (by decide) (by decide) HQ3.out).mono ?_); rintro e wa ⟨rfl, hb⟩; replace t1 := t1.below hb t1.lt; replace t2 := t2.below hb t2.lt; replace t3 := t3.below hb t3.lt; replace bel := bel.trans (hb.mono bel.size); replace X := X.below hb; replace Y := Y.below hb; replace Z := Z.below hb; replace E5 := E5.below hb; replace E6 := E6.below hb; replace E7 := E7.below hb; replace E8 := E8.below hb; clear hb)
      | (go_at_call 27; (with_reducible refine (rmul X.rv Y (by decide) (by decide) (by decide) (by decide)).mono ?_); rintro e wa ⟨A9, c9, l9, B9, d9, m9, rfl, E9, hb⟩; replace t1 := t1.below hb t1.lt; replace t2 := t2.below hb t2.lt; replace t3 := t3.below hb t3.lt; replace bel := bel.trans (hb.mono bel.size); replace X := X.below hb; replace Y := Y.below hb; replace Z := Z.below hb; replace E5 := E5.below hb; replace E6 := E6.below hb; replace E7 := E7.below hb; replace E8 := E8.below hb; clear hb)
      | (go_at_call 27; (with_reducible refine (rmul E9.rv Z (by decide) (by decide) (by decide) (by decide)).mono ?_); rintro e wa ⟨A10, c10, l10, B10, d10, m10, rfl, E10, hb⟩; replace t1 := t1.below hb t1.lt; replace t2 := t2.below hb t2.lt; replace t3 := t3.below hb t3.lt; replace bel := bel.trans (hb.mono bel.size); replace X := X.below hb; replace Y := Y.below hb; replace Z := Z.below hb; replace E5 := E5.below hb; replace E6 := E6.below hb; replace E7 := E7.below hb; replace E8 := E8.below hb; replace E9 := E9.below hb; clear hb)
      | (go_at_call 27; (with_reducible refine (rmul Y Z (by decide) (by decide) (by decide) (by decide)).mono ?_); rintro e wa ⟨A11, c11, l11, B11, d11, m11, rfl, E11, hb⟩; replace t1 := t1.below hb t1.lt; replace t2 := t2.below hb t2.lt; replace t3 := t3.below hb t3.lt; replace bel := bel.trans (hb.mono bel.size); replace X := X.below hb; replace Y := Y.below hb; replace Z := Z.below hb; replace E5 := E5.below hb; replace E6 := E6.below hb; replace E7 := E7.below hb; replace E8 := E8.below hb; replace E9 := E9.below hb; replace E10 := E10.below hb; clear hb)
      | (go_at_call 27; (with_reducible refine (rmul X.rv E11.rv (by decide) (by decide) (by decide) (by decide)).mono ?_); rintro e wa ⟨A12, c12, l12, B12, d12, m12, rfl, E12, hb⟩; replace t1 := t1.below hb t1.lt; replace t2 := t2.below hb t2.lt; replace t3 := t3.below hb t3.lt; replace bel := bel.trans (hb.mono bel.size); replace X := X.below hb; replace Y := Y.below hb; replace Z := Z.below hb; replace E5 := E5.below hb; replace E6 := E6.below hb; replace E7 := E7.below hb; replace E8 := E8.below hb; replace E9 := E9.below hb; replace E10 := E10.below hb; replace E11 := E11.below hb; clear hb)
      | (go_at_call 14; (with_reducible refine (rsame E10 E12 (by decide) (by decide) HQ4.out).mono ?_); rintro e wa ⟨rfl, hb⟩; replace t1 := t1.below hb t1.lt; replace t2 := t2.below hb t2.lt; replace t3 := t3.below hb t3.lt; replace bel := bel.trans (hb.mono bel.size); replace X := X.below hb; replace Y := Y.below hb; replace Z := Z.below hb; replace E5 := E5.below hb; replace E6 := E6.below hb; replace E7 := E7.below hb; replace E8 := E8.below hb; replace E9 := E9.below hb; replace E10 := E10.below hb; replace E11 := E11.below hb; replace E12 := E12.below hb; clear hb))
  clear E5 E6 E7 E8 E9 E10 E11 E12
  go_upto_region 10 with (fail)
  replace t1 := t1.drew
  replace t2 := t2.drew
  replace t3 := t3.drew
  replace bel := bDrew1 bel
  replace X := X.drew
  replace Y := Y.drew
  replace Z := Z.drew
  go_region_held3 (fun w' => w'.cell? ⟨w.heap.size, 0, none⟩ = some (.bool (decide (z1.num < 0))) ∧ w'.cell? ⟨w.heap.size, 1, none⟩ = some (.slice A4 l4.length c4) ∧ w'.cell? ⟨w.heap.size, 2, none⟩ = some (.bool false) ∧ w'.cell? ⟨w.heap.size, 3, none⟩ = some (.slice B4 m4.length d4) ∧ w'.cell? ⟨w.heap.size + 1, 0, none⟩ = some (.bool p2) ∧ w'.cell? ⟨w.heap.size + 1, 1, none⟩ = some (.slice A2 l2.length c2) ∧ w'.cell? ⟨w.heap.size + 1, 2, none⟩ = some (.bool q2) ∧ w'.cell? ⟨w.heap.size + 1, 3, none⟩ = some (.slice B2 m2.length d2) ∧ w'.cell? ⟨w.heap.size + 2, 0, none⟩ = some (.bool p3) ∧ w'.cell? ⟨w.heap.size + 2, 1, none⟩ = some (.slice A3 l3.length c3) ∧ w'.cell? ⟨w.heap.size + 2, 2, none⟩ = some (.bool q3) ∧ w'.cell? ⟨w.heap.size + 2, 3, none⟩ = some (.slice B3 m3.length d3))
    (with_reducible exact ⟨t1.c0, t1.c1, t1.c2, t1.c3, t2.c0, t2.c1, t2.c2, t2.c3, t3.c0, t3.c1, t3.c2, t3.c3⟩)
    (first
      | (go_at_call 23; (with_reducible refine (radd Y Z (by decide) (by decide) (by decide) (by decide)).mono ?_); rintro e wa ⟨A5, c5, l5, B5, d5, m5, rfl, E5, hb⟩; replace t1 := t1.below hb t1.lt; replace t2 := t2.below hb t2.lt; replace t3 := t3.below hb t3.lt; replace bel := bel.trans (hb.mono bel.size); replace X := X.below hb; replace Y := Y.below hb; replace Z := Z.below hb; clear hb)
      | (go_at_call 27; (with_reducible refine (rmul X.rv E5.rv (by decide) (by decide) (by decide) (by decide)).mono ?_); rintro e wa ⟨A6, c6, l6, B6, d6, m6, rfl, E6, hb⟩; replace t1 := t1.below hb t1.lt; replace t2 := t2.below hb t2.lt; replace t3 := t3.below hb t3.lt; replace bel := bel.trans (hb.mono bel.size); replace X := X.below hb; replace Y := Y.below hb; replace Z := Z.below hb; replace E5 := E5.below hb; clear hb)
      | (go_at_call 27; (with_reducible refine (rmul X.rv Y (by decide) (by decide) (by decide) (by decide)).mono ?_); rintro e wa ⟨A7, c7, l7, B7, d7, m7, rfl, E7, hb⟩; replace t1 := t1.below hb t1.lt; replace t2 := t2.below hb t2.lt; replace t3 := t3.below hb t3.lt; replace bel := bel.trans (hb.mono bel.size); replace X := X.below hb; replace Y := Y.below hb; replace Z := Z.below hb; replace E5 := E5.below hb; replace E6 := E6.below hb; clear hb)
      | (go_at_call 27; (with_reducible refine (rmul X.rv Z (by decide) (by decide) (by decide) (by decide)).mono ?_); rintro e wa ⟨A8, c8, l8, B8, d8, m8, rfl, E8, hb⟩; replace t1 := t1.below hb t1.lt; replace t2 := t2.below hb t2.lt; replace t3 := t3.below hb t3.lt; replace bel := bel.trans (hb.mono bel.size); replace X := X.below hb; replace Y := Y.below hb; replace Z := Z.below hb; replace E5 := E5.below hb; replace E6 := E6.below hb; replace E7 := E7.below hb; clear hb)
      | (go_at_call 23; (with_reducible refine (radd E7.rv E8.rv (by decide) (by decide) (by decide) (by decide)).mono ?_); rintro e wa ⟨A9, c9, l9, B9, d9, m9, rfl, E9, hb⟩; replace t1 := t1.below hb t1.lt; replace t2 := t2.below hb t2.lt; replace t3 := t3.below hb t3.lt; replace bel := bel.trans (hb.mono bel.size); replace X := X.below hb; replace Y := Y.below hb; replace Z := Z.below hb; replace E5 := E5.below hb; replace E6 := E6.below hb; replace E7 := E7.below hb; replace E8 := E8.below hb; clear hb)
      | (go_at_call 14; (with_reducible refine (rsame E6 E9 (by decide) (by decide) HQ5.out).mono ?_); rintro e wa ⟨rfl, hb⟩; replace t1 := t1.below hb t1.lt; replace t2 := t2.below hb t2.lt; replace t3 := t3.below hb t3.lt; replace bel := bel.trans (hb.mono bel.size); replace X := X.below hb; replace Y := Y.below hb; replace Z := Z.below hb; replace E5 := E5.below hb; replace E6 := E6.below hb; replace E7 := E7.below hb; replace E8 := E8.below hb; replace E9 := E9.below hb; clear hb)
      | (go_at_call 23; (with_reducible refine (radd X.rv Y (by decide) (by decide) (by decide) (by decide)).mono ?_); rintro e wa ⟨A10, c10, l10, B10, d10, m10, rfl, E10, hb⟩; replace t1 := t1.below hb t1.lt; replace t2 := t2.below hb t2.lt; replace t3 := t3.below hb t3.lt; replace bel := bel.trans (hb.mono bel.size); replace X := X.below hb; replace Y := Y.below hb; replace Z := Z.below hb; replace E5 := E5.below hb; replace E6 := E6.below hb; replace E7 := E7.below hb; replace E8 := E8.below hb; replace E9 := E9.below hb; clear hb)
      | (go_at_call 25; (with_reducible refine (rsub E10.rv Y (by decide) (by decide) (by decide) (by decide)).mono ?_); rintro e wa ⟨A11, c11, l11, B11, d11, m11, rfl, E11, hb⟩; replace t1 := t1.below hb t1.lt; replace t2 := t2.below hb t2.lt; replace t3 := t3.below hb t3.lt; replace bel := bel.trans (hb.mono bel.size); replace X := X.below hb; replace Y := Y.below hb; replace Z := Z.below hb; replace E5 := E5.below hb; replace E6 := E6.below hb; replace E7 := E7.below hb; replace E8 := E8.below hb; replace E9 := E9.below hb; replace E10 := E10.below hb; clear hb)
      | (go_at_call 14; (with_reducible refine (rsame E11 X (by decide) (by decide) HQ6.out).mono ?_); rintro e wa ⟨rfl, hb⟩; replace t1 := t1.below hb t1.lt; replace t2 := t2.below hb t2.lt; replace t3 := t3.below hb t3.lt; replace bel := bel.trans (hb.mono bel.size); replace X := X.below hb; replace Y := Y.below hb; replace Z := Z.below hb; replace E5 := E5.below hb; replace E6 := E6.below hb; replace E7 := E7.below hb; replace E8 := E8.below hb; replace E9 := E9.below hb; replace E10 := E10.below hb; replace E11 := E11.below hb; clear hb))
  clear E5 E6 E7 E8 E9 E10 E11
  go_upto_region 12 with (fail)
  have t1_0 := t1.c0
  have t1_1 := t1.c1
  have t1_2 := t1.c2
  have t1_3 := t1.c3
  have t2_0 := t2.c0
  have t2_1 := t2.c1
  have t2_2 := t2.c2
  have t2_3 := t2.c3
  go_wp2_with fail
  refine (rdiv X.rv Y (by decide) (by decide) (by decide) (by decide) HZ.out).mono ?_
  rintro e w7 ⟨A5, c5, l5, B5, d5, m5, rfl, Q, hb⟩
  clear t1_0 t1_1 t1_2 t1_3 t2_0 t2_1 t2_2 t2_3
  replace t1 := t1.below hb t1.lt
  replace t2 := t2.below hb t2.lt
  replace t3 := t3.below hb t3.lt
  replace bel := bel.trans (hb.mono bel.size)
  replace X := X.below hb
  replace Y := Y.below hb
  replace Z := Z.below hb
  clear hb
  go_upto_region 13 with (fail)
  have hg7 : w.heap.size + 2 < w7.heap.size := t3.lt
  have t7 : Four (w7.alloc (.cells #[.bool (decide ((z1 / z2).num < 0)), .slice A5 l5.length c5, .bool false, .slice B5 m5.length d5] 26)) w7.heap.size (.bool (decide ((z1 / z2).num < 0))) (.slice A5 l5.length c5) (.bool false) (.slice B5 m5.length d5) := Four.new_ w7 (.bool (decide ((z1 / z2).num < 0))) (.slice A5 l5.length c5) (.bool false) (.slice B5 m5.length d5) 26
  have bn : Below w7.heap.size w7 (w7.alloc (.cells #[.bool (decide ((z1 / z2).num < 0)), .slice A5 l5.length c5, .bool false, .slice B5 m5.length d5] 26)) := (Below.refl _ _).alloc (Nat.le_refl _) _
  replace t1 := t1.below bn t1.lt
  replace t2 := t2.below bn t2.lt
  replace t3 := t3.below bn t3.lt
  replace bel := bel.trans (bn.mono bel.size)
  replace X := X.below bn
  replace Y := Y.below bn
  replace Z := Z.below bn
  replace Q := Q.below bn
  clear bn
  generalize (w7.alloc (.cells #[.bool (decide ((z1 / z2).num < 0)), .slice A5 l5.length c5, .bool false, .slice B5 m5.length d5] 26)) = v7 at t1 t2 t3 bel X Y Z Q t7 ⊢
  generalize w7.heap.size = g7 at t1 t2 t3 bel X Y Z Q t7 hg7 ⊢
  have t2_0 := t2.c0
  have t2_1 := t2.c1
  have t2_2 := t2.c2
  have t2_3 := t2.c3
  go_wp2_with fail
  refine (HSG.out _ Y).mono ?_
  rintro e w8 ⟨rfl, hb⟩
  clear t2_0 t2_1 t2_2 t2_3
  replace t1 := t1.below hb t1.lt
  replace t2 := t2.below hb t2.lt
  replace t3 := t3.below hb t3.lt
  replace bel := bel.trans (hb.mono bel.size)
  replace X := X.below hb
  replace Y := Y.below hb
  replace Z := Z.below hb
  replace Q := Q.below hb
  replace t7 := t7.below hb t7.lt
  clear hb
  go_upto_region 15 with (fail)
  replace t1 := t1.drew
  replace t2 := t2.drew
  replace t3 := t3.drew
  replace bel := bDrew1 bel
  replace X := X.drew
  replace Y := Y.drew
  replace Z := Z.drew
  replace Q := Q.drew
  replace t7 := t7.drew
  go_region_held3 (fun w' => w'.cell? ⟨w.heap.size, 0, none⟩ = some (.bool (decide (z1.num < 0))) ∧ w'.cell? ⟨w.heap.size, 1, none⟩ = some (.slice A4 l4.length c4) ∧ w'.cell? ⟨w.heap.size, 2, none⟩ = some (.bool false) ∧ w'.cell? ⟨w.heap.size, 3, none⟩ = some (.slice B4 m4.length d4) ∧ w'.cell? ⟨w.heap.size + 1, 0, none⟩ = some (.bool p2) ∧ w'.cell? ⟨w.heap.size + 1, 1, none⟩ = some (.slice A2 l2.length c2) ∧ w'.cell? ⟨w.heap.size + 1, 2, none⟩ = some (.bool q2) ∧ w'.cell? ⟨w.heap.size + 1, 3, none⟩ = some (.slice B2 m2.length d2) ∧ w'.cell? ⟨g7, 0, none⟩ = some (.bool (decide ((z1 / z2).num < 0))) ∧ w'.cell? ⟨g7, 1, none⟩ = some (.slice A5 l5.length c5) ∧ w'.cell? ⟨g7, 2, none⟩ = some (.bool false) ∧ w'.cell? ⟨g7, 3, none⟩ = some (.slice B5 m5.length d5))
    (with_reducible exact ⟨t1.c0, t1.c1, t1.c2, t1.c3, t2.c0, t2.c1, t2.c2, t2.c3, t7.c0, t7.c1, t7.c2, t7.c3⟩)
    (first
      | (go_at_call 27; (with_reducible refine (rmul Q.rv Y (by decide) (by decide) (by decide) (by decide)).mono ?_); rintro e wa ⟨A6, c6, l6, B6, d6, m6, rfl, E6, hb⟩; replace t1 := t1.below hb t1.lt; replace t2 := t2.below hb t2.lt; replace t3 := t3.below hb t3.lt; replace bel := bel.trans (hb.mono bel.size); replace X := X.below hb; replace Y := Y.below hb; replace Z := Z.below hb; replace Q := Q.below hb; replace t7 := t7.below hb t7.lt; clear hb)
      | (go_at_call 14; (with_reducible refine (rsame E6 X (by decide) (by decide) HQ7.out).mono ?_); rintro e wa ⟨rfl, hb⟩; replace t1 := t1.below hb t1.lt; replace t2 := t2.below hb t2.lt; replace t3 := t3.below hb t3.lt; replace bel := bel.trans (hb.mono bel.size); replace X := X.below hb; replace Y := Y.below hb; replace Z := Z.below hb; replace Q := Q.below hb; replace t7 := t7.below hb t7.lt; replace E6 := E6.below hb; clear hb))
  go_wp2_with fail
  go_ret
  exact ⟨rfl, bel⟩
end Go.Proofs.YtpfaddgcfacgdaaGreatDoor
/- Walks of package rational: RationalField, the second one zero. -/
namespace Go.Proofs.YtpfaddgcfacgdaaGreatDoor
open Go.RowKit
set_option linter.unusedVariables false

set_option maxRecDepth 100000 in
set_option maxHeartbeats 3000000 in
theorem field_zero (p1 : Bool) (A1 : Option Addr) (l1 : List Nat) (c1 : Nat) (q1 : Bool) (B1 : Option Addr) (m1 : List Nat) (d1 : Nat) (p2 : Bool) (A2 : Option Addr) (l2 : List Nat) (c2 : Nat) (q2 : Bool) (B2 : Option Addr) (m2 : List Nat) (d2 : Nat) (p3 : Bool) (A3 : Option Addr) (l3 : List Nat) (c3 : Nat) (q3 : Bool) (B3 : Option Addr) (m3 : List Nat) (d3 : Nat) {z1 z2 z3 : Rat} (w : World) (h1 : Rv w p1 A1 c1 l1 q1 B1 d1 m1 z1 4) (h2 : Rv w p2 A2 c2 l2 q2 B2 d2 m2 z2 4) (h3 : Rv w p3 A3 c3 l3 q3 B3 d3 m3 z3 4) (ht : Tabs w) (mx : Mx w) (f1 : decide (l1.length ≤ 4 ∧ m1.length ≤ 4) = true) (f2 : decide (l2.length ≤ 4 ∧ m2.length ≤ 4) = true) (f3 : decide (l3.length ≤ 4 ∧ m3.length ≤ 4) = true) (h0 : z2 = 0) :
    Calls Tryz.prog 7 #[ratV p1 A1 l1.length c1 q1 B1 m1.length d1, ratV p2 A2 l2.length c2 q2 B2 m2.length d2, ratV p3 A3 l3.length c3 q3 B3 m3.length d3] w fun e w' => e = .returned (.bool true) ∧ Below w.heap.size w w' := by
  have HQ1 := Lib.hid (Rat.add_comm z1 z2)
  have HQ2 := Lib.hid (Rat.mul_comm z1 z2)
  have HQ3 := Lib.hid (Rat.add_assoc z1 z2 z3)
  have HQ4 := Lib.hid (Rat.mul_assoc z1 z2 z3)
  have HQ5 := Lib.hid (Rat.mul_add z1 z2 z3)
  have HQ6 : Hid (z1 + z2 - z2 = z1) := Lib.hid (by grind)
  have HZ := Lib.hid h0
  obtain ⟨s, hs⟩ : ∃ s, s = z2.num.sign := ⟨_, rfl⟩
  have es : (s == 0) = true := by rw [hs, h0]; rfl
  have HSG := Lib.hid (fun (W : World) (h : Rv W p2 A2 c2 l2 q2 B2 d2 m2 z2 4) => (by have h := rsgn h (by decide); rw [← hs] at h; exact h : Calls Tryz.prog 31 #[.agg #[.bool p2, .slice A2 l2.length c2, .bool q2, .slice B2 m2.length d2]] W fun e w' => e = .returned (.int .i64 s) ∧ Below W.heap.size W w'))
  clear h0 hs
  have HF1 := Lib.hid (fun (W : World) => gfew p1 A1 c1 l1.length q1 B1 d1 m1.length true (Lib.hid f1) W)
  have HF2 := Lib.hid (fun (W : World) => gfew p2 A2 c2 l2.length q2 B2 d2 m2.length true (Lib.hid f2) W)
  have HF3 := Lib.hid (fun (W : World) => gfew p3 A3 c3 l3.length q3 B3 d3 m3.length true (Lib.hid f3) W)
  clear f1 f2 f3
  unfold ratV
  go_enter Tryz.func7, Tryz.ntmps7
  go_wp2_with fail
  have t1 : Four (((w.alloc (.cells #[.bool p1, .slice A1 l1.length c1, .bool q1, .slice B1 m1.length d1] 26)).alloc (.cells #[.bool p2, .slice A2 l2.length c2, .bool q2, .slice B2 m2.length d2] 26)).alloc (.cells #[.bool p3, .slice A3 l3.length c3, .bool q3, .slice B3 m3.length d3] 26)) w.heap.size (.bool p1) (.slice A1 l1.length c1) (.bool q1) (.slice B1 m1.length d1) := ((Four.new_ w (.bool p1) (.slice A1 l1.length c1) (.bool q1) (.slice B1 m1.length d1) 26).alloc _).alloc _
  have t2 : Four (((w.alloc (.cells #[.bool p1, .slice A1 l1.length c1, .bool q1, .slice B1 m1.length d1] 26)).alloc (.cells #[.bool p2, .slice A2 l2.length c2, .bool q2, .slice B2 m2.length d2] 26)).alloc (.cells #[.bool p3, .slice A3 l3.length c3, .bool q3, .slice B3 m3.length d3] 26)) (w.heap.size + 1) (.bool p2) (.slice A2 l2.length c2) (.bool q2) (.slice B2 m2.length d2) := by simpa only [World.size_alloc, Nat.add_assoc, Nat.reduceAdd] using (Four.new_ (w.alloc (.cells #[.bool p1, .slice A1 l1.length c1, .bool q1, .slice B1 m1.length d1] 26)) (.bool p2) (.slice A2 l2.length c2) (.bool q2) (.slice B2 m2.length d2) 26).alloc _
  have t3 : Four (((w.alloc (.cells #[.bool p1, .slice A1 l1.length c1, .bool q1, .slice B1 m1.length d1] 26)).alloc (.cells #[.bool p2, .slice A2 l2.length c2, .bool q2, .slice B2 m2.length d2] 26)).alloc (.cells #[.bool p3, .slice A3 l3.length c3, .bool q3, .slice B3 m3.length d3] 26)) (w.heap.size + 2) (.bool p3) (.slice A3 l3.length c3) (.bool q3) (.slice B3 m3.length d3) := by simpa only [World.size_alloc, Nat.add_assoc, Nat.reduceAdd] using Four.new_ ((w.alloc (.cells #[.bool p1, .slice A1 l1.length c1, .bool q1, .slice B1 m1.length d1] 26)).alloc (.cells #[.bool p2, .slice A2 l2.length c2, .bool q2, .slice B2 m2.length d2] 26)) (.bool p3) (.slice A3 l3.length c3) (.bool q3) (.slice B3 m3.length d3) 26
  have bel : Below w.heap.size w (((w.alloc (.cells #[.bool p1, .slice A1 l1.length c1, .bool q1, .slice B1 m1.length d1] 26)).alloc (.cells #[.bool p2, .slice A2 l2.length c2, .bool q2, .slice B2 m2.length d2] 26)).alloc (.cells #[.bool p3, .slice A3 l3.length c3, .bool q3, .slice B3 m3.length d3] 26)) := (((Below.refl _ _).alloc (Nat.le_refl _) _).alloc (by simp only [World.size_alloc]; omega) _).alloc (by simp only [World.size_alloc]; omega) _
  generalize (((w.alloc (.cells #[.bool p1, .slice A1 l1.length c1, .bool q1, .slice B1 m1.length d1] 26)).alloc (.cells #[.bool p2, .slice A2 l2.length c2, .bool q2, .slice B2 m2.length d2] 26)).alloc (.cells #[.bool p3, .slice A3 l3.length c3, .bool q3, .slice B3 m3.length d3] 26)) = wx at t1 t2 t3 bel ⊢
  refine (rknown_ok _ (ht.below bel) (mx.below_ bel)).mono ?_
  rintro e w2 ⟨rfl, hb⟩
  replace t1 := t1.below hb t1.lt
  replace t2 := t2.below hb t2.lt
  replace t3 := t3.below hb t3.lt
  replace bel := bel.trans (hb.mono bel.size)
  clear hb
  have t1_0 := t1.c0
  have t1_1 := t1.c1
  have t1_2 := t1.c2
  have t1_3 := t1.c3
  go_wp2_with fail
  refine (HF1.out _).mono ?_
  rintro e w3 ⟨rfl, hb⟩
  clear t1_0 t1_1 t1_2 t1_3
  replace t1 := t1.below hb t1.lt
  replace t2 := t2.below hb t2.lt
  replace t3 := t3.below hb t3.lt
  replace bel := bel.trans (hb.mono bel.size)
  clear hb
  have t2_0 := t2.c0
  have t2_1 := t2.c1
  have t2_2 := t2.c2
  have t2_3 := t2.c3
  go_wp2_with fail
  refine (HF2.out _).mono ?_
  rintro e w4 ⟨rfl, hb⟩
  clear t2_0 t2_1 t2_2 t2_3
  replace t1 := t1.below hb t1.lt
  replace t2 := t2.below hb t2.lt
  replace t3 := t3.below hb t3.lt
  replace bel := bel.trans (hb.mono bel.size)
  clear hb
  have t3_0 := t3.c0
  have t3_1 := t3.c1
  have t3_2 := t3.c2
  have t3_3 := t3.c3
  go_wp2_with fail
  refine (HF3.out _).mono ?_
  rintro e w5 ⟨rfl, hb⟩
  clear t3_0 t3_1 t3_2 t3_3
  replace t1 := t1.below hb t1.lt
  replace t2 := t2.below hb t2.lt
  replace t3 := t3.below hb t3.lt
  replace bel := bel.trans (hb.mono bel.size)
  clear hb
  clear HF1 HF2 HF3
  have X1 := h1.below bel
  have t1_0 := t1.c0
  have t1_1 := t1.c1
  have t1_2 := t1.c2
  have t1_3 := t1.c3
  go_wp2_with fail
  refine (rcln X1 (by decide) (by decide)).mono ?_
  rintro e w6 ⟨A4, c4, l4, B4, d4, m4, rfl, X, hb⟩
  clear t1_0 t1_1 t1_2 t1_3
  replace t1 := t1.below hb t1.lt
  replace t2 := t2.below hb t2.lt
  replace t3 := t3.below hb t3.lt
  replace bel := bel.trans (hb.mono bel.size)
  clear hb
  clear X1
  have t1_0 := t1.c0
  have t1_1 := t1.c1
  have t1_2 := t1.c2
  have t1_3 := t1.c3
  have f0 := t1.fr 0
  have f1 := t1.fr 1
  have f2 := t1.fr 2
  have f3 := t1.fr 3
  go_upto_region 6 with (fail)
  clear f0 f1 f2 f3
  clear t1_0 t1_1 t1_2 t1_3
  replace t2 := t2.far4 (g := w.heap.size) (by omega) (.bool (decide (z1.num < 0))) (.slice A4 l4.length c4) (.bool false) (.slice B4 m4.length d4)
  replace t3 := t3.far4 (g := w.heap.size) (by omega) (.bool (decide (z1.num < 0))) (.slice A4 l4.length c4) (.bool false) (.slice B4 m4.length d4)
  replace bel := below_set4 bel (b := w.heap.size) (by omega) (.bool (decide (z1.num < 0))) (.slice A4 l4.length c4) (.bool false) (.slice B4 m4.length d4)
  replace X := X.put4 t1 (.bool (decide (z1.num < 0))) (.slice A4 l4.length c4) (.bool false) (.slice B4 m4.length d4)
  replace t1 := t1.put (.bool (decide (z1.num < 0))) (.slice A4 l4.length c4) (.bool false) (.slice B4 m4.length d4)
  dsimp only [set4] at t1 t2 t3 bel X
  generalize ((((w6.setCell ⟨w.heap.size, 0, none⟩ (.bool (decide (z1.num < 0)))).setCell ⟨w.heap.size, 1, none⟩ (.slice A4 l4.length c4)).setCell ⟨w.heap.size, 2, none⟩ (.bool false)).setCell ⟨w.heap.size, 3, none⟩ (.slice B4 m4.length d4)) = v1 at t1 t2 t3 bel X ⊢
  have Y := h2.below bel
  have Z := h3.below bel
  replace t1 := t1.drew
  replace t2 := t2.drew
  replace t3 := t3.drew
  replace bel := bDrew1 bel
  replace X := X.drew
  replace Y := Y.drew
  replace Z := Z.drew
  go_region_held3 (fun w' => w'.cell? ⟨w.heap.size, 0, none⟩ = some (.bool (decide (z1.num < 0))) ∧ w'.cell? ⟨w.heap.size, 1, none⟩ = some (.slice A4 l4.length c4) ∧ w'.cell? ⟨w.heap.size, 2, none⟩ = some (.bool false) ∧ w'.cell? ⟨w.heap.size, 3, none⟩ = some (.slice B4 m4.length d4) ∧ w'.cell? ⟨w.heap.size + 1, 0, none⟩ = some (.bool p2) ∧ w'.cell? ⟨w.heap.size + 1, 1, none⟩ = some (.slice A2 l2.length c2) ∧ w'.cell? ⟨w.heap.size + 1, 2, none⟩ = some (.bool q2) ∧ w'.cell? ⟨w.heap.size + 1, 3, none⟩ = some (.slice B2 m2.length d2))
    (with_reducible exact ⟨t1.c0, t1.c1, t1.c2, t1.c3, t2.c0, t2.c1, t2.c2, t2.c3⟩)
    (first
      | (go_at_call 23; (with_reducible refine (radd X.rv Y (by decide) (by decide) (by decide) (by decide)).mono ?_); rintro e wa ⟨A5, c5, l5, B5, d5, m5, rfl, E5, hb⟩; replace t1 := t1.below hb t1.lt; replace t2 := t2.below hb t2.lt; replace t3 := t3.below hb t3.lt; replace bel := bel.trans (hb.mono bel.size); replace X := X.below hb; replace Y := Y.below hb; replace Z := Z.below hb; clear hb)
      | (go_at_call 23; (with_reducible refine (radd Y X.rv (by decide) (by decide) (by decide) (by decide)).mono ?_); rintro e wa ⟨A6, c6, l6, B6, d6, m6, rfl, E6, hb⟩; replace t1 := t1.below hb t1.lt; replace t2 := t2.below hb t2.lt; replace t3 := t3.below hb t3.lt; replace bel := bel.trans (hb.mono bel.size); replace X := X.below hb; replace Y := Y.below hb; replace Z := Z.below hb; replace E5 := E5.below hb; clear hb)
      | (go_at_call 14; (with_reducible refine (rsame E5 E6 (by decide) (by decide) HQ1.out).mono ?_); rintro e wa ⟨rfl, hb⟩; replace t1 := t1.below hb t1.lt; replace t2 := t2.below hb t2.lt; replace t3 := t3.below hb t3.lt; replace bel := bel.trans (hb.mono bel.size); replace X := X.below hb; replace Y := Y.below hb; replace Z := Z.below hb; replace E5 := E5.below hb; replace E6 := E6.below hb; clear hb)
      | (go_at_call 27; (with_reducible refine (rmul X.rv Y (by decide) (by decide) (by decide) (by decide)).mono ?_); rintro e wa ⟨A7, c7, l7, B7, d7, m7, rfl, E7, hb⟩; replace t1 := t1.below hb t1.lt; replace t2 := t2.below hb t2.lt; replace t3 := t3.below hb t3.lt; replace bel := bel.trans (hb.mono bel.size); replace X := X.below hb; replace Y := Y.below hb; replace Z := Z.below hb; replace E5 := E5.below hb; replace E6 := E6.below hb; clear hb)
      | (go_at_call 27; (with_reducible refine (rmul Y X.rv (by decide) (by decide) (by decide) (by decide)).mono ?_); rintro e wa ⟨A8, c8, l8, B8, d8, m8, rfl, E8, hb⟩; replace t1 := t1.below hb t1.lt; replace t2 := t2.below hb t2.lt; replace t3 := t3.below hb t3.lt; replace bel := bel.trans (hb.mono bel.size); replace X := X.below hb; replace Y := Y.below hb; replace Z := Z.below hb; replace E5 := E5.below hb; replace E6 := E6.below hb; replace E7 := E7.below hb; clear hb)
      | (go_at_call 14; (with_reducible refine (rsame E7 E8 (by decide) (by decide) HQ2.out).mono ?_); rintro e wa ⟨rfl, hb⟩; replace t1 := t1.below hb t1.lt; replace t2 := t2.below hb t2.lt; replace t3 := t3.below hb t3.lt; replace bel := bel.trans (hb.mono bel.size); replace X := X.below hb; replace Y := Y.below hb; replace Z := Z.below hb; replace E5 := E5.below hb; replace E6 := E6.below hb; replace E7 := E7.below hb; replace E8 := E8.below hb; clear hb))
  clear E5 E6 E7 E8
  go_upto_region 8 with (fail)
  replace t1 := t1.drew
  replace t2 := t2.drew
  replace t3 := t3.drew
  replace bel := bDrew1 bel
  replace X := X.drew
  replace Y := Y.drew
  replace Z := Z.drew
  go_region_held3 (fun w' => w'.cell? ⟨w.heap.size, 0, none⟩ = some (.bool (decide (z1.num < 0))) ∧ w'.cell? ⟨w.heap.size, 1, none⟩ = some (.slice A4 l4.length c4) ∧ w'.cell? ⟨w.heap.size, 2, none⟩ = some (.bool false) ∧ w'.cell? ⟨w.heap.size, 3, none⟩ = some (.slice B4 m4.length d4) ∧ w'.cell? ⟨w.heap.size + 1, 0, none⟩ = some (.bool p2) ∧ w'.cell? ⟨w.heap.size + 1, 1, none⟩ = some (.slice A2 l2.length c2) ∧ w'.cell? ⟨w.heap.size + 1, 2, none⟩ = some (.bool q2) ∧ w'.cell? ⟨w.heap.size + 1, 3, none⟩ = some (.slice B2 m2.length d2) ∧ w'.cell? ⟨w.heap.size + 2, 0, none⟩ = some (.bool p3) ∧ w'.cell? ⟨w.heap.size + 2, 1, none⟩ = some (.slice A3 l3.length c3) ∧ w'.cell? ⟨w.heap.size + 2, 2, none⟩ = some (.bool q3) ∧ w'.cell? ⟨w.heap.size + 2, 3, none⟩ = some (.slice B3 m3.length d3))
    (with_reducible exact ⟨t1.c0, t1.c1, t1.c2, t1.c3, t2.c0, t2.c1, t2.c2, t2.c3, t3.c0, t3.c1, t3.c2, t3.c3⟩)
    (first
      | (go_at_call 23; (with_reducible refine (radd X.rv Y (by decide) (by decide) (by decide) (by decide)).mono ?_); rintro e wa ⟨A5, c5, l5, B5, d5, m5, rfl, E5, hb⟩; replace t1 := t1.below hb t1.lt; replace t2 := t2.below hb t2.lt; replace t3 := t3.below hb t3.lt; replace bel := bel.trans (hb.mono bel.size); replace X := X.below hb; replace Y := Y.below hb; replace Z := Z.below hb; clear hb)
      | (go_at_call 23; (with_reducible refine (radd E5.rv Z (by decide) (by decide) (by decide) (by decide)).mono ?_); rintro e wa ⟨A6, c6, l6, B6, d6, m6, rfl, E6, hb⟩; replace t1 := t1.below hb t1.lt; replace t2 := t2.below hb t2.lt; replace t3 := t3.below hb t3.lt; replace bel := bel.trans (hb.mono bel.size); replace X := X.below hb; replace Y := Y.below hb; replace Z := Z.below hb; replace E5 := E5.below hb; clear hb)
      | (go_at_call 23; (with_reducible refine (radd Y Z (by decide) (by decide) (by decide) (by decide)).mono ?_); rintro e wa ⟨A7, c7, l7, B7, d7, m7, rfl, E7, hb⟩; replace t1 := t1.below hb t1.lt; replace t2 := t2.below hb t2.lt; replace t3 := t3.below hb t3.lt; replace bel := bel.trans (hb.mono bel.size); replace X := X.below hb; replace Y := Y.below hb; replace Z := Z.below hb; replace E5 := E5.below hb; replace E6 := E6.below hb; clear hb)
      | (go_at_call 23; (with_reducible refine (radd X.rv E7.rv (by decide) (by decide) (by decide) (by decide)).mono ?_); rintro e wa ⟨A8, c8, l8, B8, d8, m8, rfl, E8, hb⟩; replace t1 := t1.below hb t1.lt; replace t2 := t2.below hb t2.lt; replace t3 := t3.below hb t3.lt; replace bel := bel.trans (hb.mono bel.size); replace X := X.below hb; replace Y := Y.below hb; replace Z := Z.below hb; replace E5 := E5.below hb; replace E6 := E6.below hb; replace E7 := E7.below hb; clear hb)
      | (go_at_call 14; (with_reducible refine (rsame E6 E8 (by decide) (by decide) HQ3.out).mono ?_); rintro e wa ⟨rfl, hb⟩; replace t1 := t1.below hb t1.lt; replace t2 := t2.below hb t2.lt; replace t3 := t3.below hb t3.lt; replace bel := bel.trans (hb.mono bel.size); replace X := X.below hb; replace Y := Y.below hb; replace Z := Z.below hb; replace E5 := E5.below hb; replace E6 := E6.below hb; replace E7 := E7.below hb; replace E8 := E8.below hb; clear hb)
      | (go_at_call 27; (with_reducible refine (rmul X.rv Y (by decide) (by decide) (by decide) (by decide)).mono ?_); rintro e wa ⟨A9, c9, l9, B9, d9, m9, rfl, E9, hb⟩; replace t1 := t1.below hb t1.lt; replace t2 := t2.below hb t2.lt; replace t3 := t3.below hb t3.lt; replace bel := bel.trans (hb.mono bel.size); replace X := X.below hb; replace Y := Y.below hb; replace Z := Z.below hb; replace E5 := E5.below hb; replace E6 := E6.below hb; replace E7 := E7.below hb; replace E8 := E8.below hb; clear hb)
      | (go_at_call 27; (with_reducible refine (rmul E9.rv Z (by decide) (by decide) (by decide) (by decide)).mono ?_); rintro e wa ⟨A10, c10, l10, B10, d10, m10, rfl, E10, hb⟩; replace t1 := t1.below hb t1.lt; replace t2 := t2.below hb t2.lt; replace t3 := t3.below hb t3.lt; replace bel := bel.trans (hb.mono bel.size); replace X := X.below hb; replace Y := Y.below hb; replace Z := Z.below hb; replace E5 := E5.below hb; replace E6 := E6.below hb; replace E7 := E7.below hb; replace E8 := E8.below hb; replace E9 := E9.below hb; clear hb)
      | (go_at_call 27; (with_reducible refine (rmul Y Z (by decide) (by decide) (by decide) (by decide)).mono ?_); rintro e wa ⟨A11, c11, l11, B11, d11, m11, rfl, E11, hb⟩; replace t1 := t1.below hb t1.lt; replace t2 := t2.below hb t2.lt; replace t3 := t3.below hb t3.lt; replace bel := bel.trans (hb.mono bel.size); replace X := X.below hb; replace Y := Y.below hb; replace Z := Z.below hb; replace E5 := E5.below hb; replace E6 := E6.below hb; replace E7 := E7.below hb; replace E8 := E8.below hb; replace E9 := E9.below hb; replace E10 := E10.below hb; clear hb)
      | (go_at_call 27; (with_reducible refine (rmul X.rv E11.rv (by decide) (by decide) (by decide) (by decide)).mono ?_); rintro e wa ⟨A12, c12, l12, B12, d12, m12, rfl, E12, hb⟩; replace t1 := t1.below hb t1.lt; replace t2 := t2.below hb t2.lt; replace t3 := t3.below hb t3.lt; replace bel := bel.trans (hb.mono bel.size); replace X := X.below hb; replace Y := Y.below hb; replace Z := Z.below hb; replace E5 := E5.below hb; replace E6 := E6.below hb; replace E7 := E7.below hb; replace E8 := E8.below hb; replace E9 := E9.below hb; replace E10 := E10.below hb; replace E11 := E11.below hb; clear hb)
      | (go_at_call 14; (with_reducible refine (rsame E10 E12 (by decide) (by decide) HQ4.out).mono ?_); rintro e wa ⟨rfl, hb⟩; replace t1 := t1.below hb t1.lt; replace t2 := t2.below hb t2.lt; replace t3 := t3.below hb t3.lt; replace bel := bel.trans (hb.mono bel.size); replace X := X.below hb; replace Y := Y.below hb; replace Z := Z.below hb; replace E5 := E5.below hb; replace E6 := E6.below hb; replace E7 := E7.below hb; replace E8 := E8.below hb; replace E9 := E9.below hb; replace E10 := E10.below hb; replace E11 := E11.below hb; replace E12 := E12.below hb; clear hb))
  clear E5 E6 E7 E8 E9 E10 E11 E12
  go_upto_region 10 with (fail)
  replace t1 := t1.drew
  replace t2 := t2.drew
  replace t3 := t3.drew
  replace bel := bDrew1 bel
  replace X := X.drew
  replace Y := Y.drew
  replace Z := Z.drew
  go_region_held3 (fun w' => w'.cell? ⟨w.heap.size, 0, none⟩ = some (.bool (decide (z1.num < 0))) ∧ w'.cell? ⟨w.heap.size, 1, none⟩ = some (.slice A4 l4.length c4) ∧ w'.cell? ⟨w.heap.size, 2, none⟩ = some (.bool false) ∧ w'.cell? ⟨w.heap.size, 3, none⟩ = some (.slice B4 m4.length d4) ∧ w'.cell? ⟨w.heap.size + 1, 0, none⟩ = some (.bool p2) ∧ w'.cell? ⟨w.heap.size + 1, 1, none⟩ = some (.slice A2 l2.length c2) ∧ w'.cell? ⟨w.heap.size + 1, 2, none⟩ = some (.bool q2) ∧ w'.cell? ⟨w.heap.size + 1, 3, none⟩ = some (.slice B2 m2.length d2) ∧ w'.cell? ⟨w.heap.size + 2, 0, none⟩ = some (.bool p3) ∧ w'.cell? ⟨w.heap.size + 2, 1, none⟩ = some (.slice A3 l3.length c3) ∧ w'.cell? ⟨w.heap.size + 2, 2, none⟩ = some (.bool q3) ∧ w'.cell? ⟨w.heap.size + 2, 3, none⟩ = some (.slice B3 m3.length d3))
    (with_reducible exact ⟨t1.c0, t1.c1, t1.c2, t1.c3, t2.c0, t2.c1, t2.c2, t2.c3, t3.c0, t3.c1, t3.c2, t3.c3⟩)
    (first
      | (go_at_call 23; (with_reducible refine (radd Y Z (by decide) (by decide) (by decide) (by decide)).mono ?_); rintro e wa ⟨A5, c5, l5, B5, d5, m5, rfl, E5, hb⟩; replace t1 := t1.below hb t1.lt; replace t2 := t2.below hb t2.lt; replace t3 := t3.below hb t3.lt; replace bel := bel.trans (hb.mono bel.size); replace X := X.below hb; replace Y := Y.below hb; replace Z := Z.below hb; clear hb)
      | (go_at_call 27; (with_reducible refine (rmul X.rv E5.rv (by decide) (by decide) (by decide) (by decide)).mono ?_); rintro e wa ⟨A6, c6, l6, B6, d6, m6, rfl, E6, hb⟩; replace t1 := t1.below hb t1.lt; replace t2 := t2.below hb t2.lt; replace t3 := t3.below hb t3.lt; replace bel := bel.trans (hb.mono bel.size); replace X := X.below hb; replace Y := Y.below hb; replace Z := Z.below hb; replace E5 := E5.below hb; clear hb)
      | (go_at_call 27; (with_reducible refine (rmul X.rv Y (by decide) (by decide) (by decide) (by decide)).mono ?_); rintro e wa ⟨A7, c7, l7, B7, d7, m7, rfl, E7, hb⟩; replace t1 := t1.below hb t1.lt; replace t2 := t2.below hb t2.lt; replace t3 := t3.below hb t3.lt; replace bel := bel.trans (hb.mono bel.size); replace X := X.below hb; replace Y := Y.below hb; replace Z := Z.below hb; replace E5 := E5.below hb; replace E6 := E6.below hb; clear hb)
      | (go_at_call 27; (with_reducible refine (rmul X.rv Z (by decide) (by decide) (by decide) (by decide)).mono ?_); rintro e wa ⟨A8, c8, l8, B8, d8, m8, rfl, E8, hb⟩; replace t1 := t1.below hb t1.lt; replace t2 := t2.below hb t2.lt; replace t3 := t3.below hb t3.lt; replace bel := bel.trans (hb.mono bel.size); replace X := X.below hb; replace Y := Y.below hb; replace Z := Z.below hb; replace E5 := E5.below hb; replace E6 := E6.below hb; replace E7 := E7.below hb; clear hb)
      | (go_at_call 23; (with_reducible refine (radd E7.rv E8.rv (by decide) (by decide) (by decide) (by decide)).mono ?_); rintro e wa ⟨A9, c9, l9, B9, d9, m9, rfl, E9, hb⟩; replace t1 := t1.below hb t1.lt; replace t2 := t2.below hb t2.lt; replace t3 := t3.below hb t3.lt; replace bel := bel.trans (hb.mono bel.size); replace X := X.below hb; replace Y := Y.below hb; replace Z := Z.below hb; replace E5 := E5.below hb; replace E6 := E6.below hb; replace E7 := E7.below hb; replace E8 := E8.below hb; clear hb)
      | (go_at_call 14; (with_reducible refine (rsame E6 E9 (by decide) (by decide) HQ5.out).mono ?_); rintro e wa ⟨rfl, hb⟩; replace t1 := t1.below hb t1.lt; replace t2 := t2.below hb t2.lt; replace t3 := t3.below hb t3.lt; replace bel := bel.trans (hb.mono bel.size); replace X := X.below hb; replace Y := Y.below hb; replace Z := Z.below hb; replace E5 := E5.below hb; replace E6 := E6.below hb; replace E7 := E7.below hb; replace E8 := E8.below hb; replace E9 := E9.below hb; clear hb)
      | (go_at_call 23; (with_reducible refine (radd X.rv Y (by decide) (by decide) (by decide) (by decide)).mono ?_); rintro e wa ⟨A10, c10, l10, B10, d10, m10, rfl, E10, hb⟩; replace t1 := t1.below hb t1.lt; replace t2 := t2.below hb t2.lt; replace t3 := t3.below hb t3.lt; replace bel := bel.trans (hb.mono bel.size); replace X := X.below hb; replace Y := Y.below hb; replace Z := Z.below hb; replace E5 := E5.below hb; replace E6 := E6.below hb; replace E7 := E7.below hb; replace E8 := E8.below hb; replace E9 := E9.below hb; clear hb)
      | (go_at_call 25; (with_reducible refine (rsub E10.rv Y (by decide) (by decide) (by decide) (by decide)).mono ?_); rintro e wa ⟨A11, c11, l11, B11, d11, m11, rfl, E11, hb⟩; replace t1 := t1.below hb t1.lt; replace t2 := t2.below hb t2.lt; replace t3 := t3.below hb t3.lt; replace bel := bel.trans (hb.mono bel.size); replace X := X.below hb; replace Y := Y.below hb; replace Z := Z.below hb; replace E5 := E5.below hb; replace E6 := E6.below hb; replace E7 := E7.below hb; replace E8 := E8.below hb; replace E9 := E9.below hb; replace E10 := E10.below hb; clear hb)
      | (go_at_call 14; (with_reducible refine (rsame E11 X (by decide) (by decide) HQ6.out).mono ?_); rintro e wa ⟨rfl, hb⟩; replace t1 := t1.below hb t1.lt; replace t2 := t2.below hb t2.lt; replace t3 := t3.below hb t3.lt; replace bel := bel.trans (hb.mono bel.size); replace X := X.below hb; replace Y := Y.below hb; replace Z := Z.below hb; replace E5 := E5.below hb; replace E6 := E6.below hb; replace E7 := E7.below hb; replace E8 := E8.below hb; replace E9 := E9.below hb; replace E10 := E10.below hb; replace E11 := E11.below hb; clear hb))
  clear E5 E6 E7 E8 E9 E10 E11
  go_upto_region 12 with (fail)
  have t1_0 := t1.c0
  have t1_1 := t1.c1
  have t1_2 := t1.c2
  have t1_3 := t1.c3
  have t2_0 := t2.c0
  have t2_1 := t2.c1
  have t2_2 := t2.c2
  have t2_3 := t2.c3
  go_wp2_with fail
  refine (rdiv0 X.rv Y (by decide) (by decide) (by decide) (by decide) HZ.out).mono ?_
  rintro e w7 ⟨rfl, hb⟩
  clear t1_0 t1_1 t1_2 t1_3 t2_0 t2_1 t2_2 t2_3
  replace t1 := t1.below hb t1.lt
  replace t2 := t2.below hb t2.lt
  replace t3 := t3.below hb t3.lt
  replace bel := bel.trans (hb.mono bel.size)
  replace X := X.below hb
  replace Y := Y.below hb
  replace Z := Z.below hb
  clear hb
  go_upto_region 13 with (fail)
  have hg7 : w.heap.size + 2 < w7.heap.size := t3.lt
  have t7 : Four (w7.alloc (.cells #[.bool false, .slice none 0 0, .bool false, .slice none 0 0] 26)) w7.heap.size (.bool false) (.slice none 0 0) (.bool false) (.slice none 0 0) := Four.new_ w7 (.bool false) (.slice none 0 0) (.bool false) (.slice none 0 0) 26
  have bn : Below w7.heap.size w7 (w7.alloc (.cells #[.bool false, .slice none 0 0, .bool false, .slice none 0 0] 26)) := (Below.refl _ _).alloc (Nat.le_refl _) _
  replace t1 := t1.below bn t1.lt
  replace t2 := t2.below bn t2.lt
  replace t3 := t3.below bn t3.lt
  replace bel := bel.trans (bn.mono bel.size)
  replace X := X.below bn
  replace Y := Y.below bn
  replace Z := Z.below bn
  clear bn
  generalize (w7.alloc (.cells #[.bool false, .slice none 0 0, .bool false, .slice none 0 0] 26)) = v7 at t1 t2 t3 bel X Y Z t7 ⊢
  generalize w7.heap.size = g7 at t1 t2 t3 bel X Y Z t7 hg7 ⊢
  have t2_0 := t2.c0
  have t2_1 := t2.c1
  have t2_2 := t2.c2
  have t2_3 := t2.c3
  go_wp2_with fail
  refine (HSG.out _ Y).mono ?_
  rintro e w8 ⟨rfl, hb⟩
  clear t2_0 t2_1 t2_2 t2_3
  replace t1 := t1.below hb t1.lt
  replace t2 := t2.below hb t2.lt
  replace t3 := t3.below hb t3.lt
  replace bel := bel.trans (hb.mono bel.size)
  replace X := X.below hb
  replace Y := Y.below hb
  replace Z := Z.below hb
  replace t7 := t7.below hb t7.lt
  clear hb
  go_wp2_with fail
  go_ret
  exact ⟨rfl, bel⟩
end Go.Proofs.YtpfaddgcfacgdaaGreatDoor
/- Walks of package rational: RationalField, the law. -/
namespace Go.Proofs.YtpfaddgcfacgdaaGreatDoor
open Go.RowKit
set_option linter.unusedVariables false

theorem field_main (p1 : Bool) (A1 : Option Addr) (l1 : List Nat) (c1 : Nat) (q1 : Bool) (B1 : Option Addr) (m1 : List Nat) (d1 : Nat) (p2 : Bool) (A2 : Option Addr) (l2 : List Nat) (c2 : Nat) (q2 : Bool) (B2 : Option Addr) (m2 : List Nat) (d2 : Nat) (p3 : Bool) (A3 : Option Addr) (l3 : List Nat) (c3 : Nat) (q3 : Bool) (B3 : Option Addr) (m3 : List Nat) (d3 : Nat) {z1 z2 z3 : Rat} (w : World) (h1 : Rv w p1 A1 c1 l1 q1 B1 d1 m1 z1 4) (h2 : Rv w p2 A2 c2 l2 q2 B2 d2 m2 z2 4) (h3 : Rv w p3 A3 c3 l3 q3 B3 d3 m3 z3 4) (ht : Tabs w) (mx : Mx w) (f1 : decide (l1.length ≤ 4 ∧ m1.length ≤ 4) = true) (f2 : decide (l2.length ≤ 4 ∧ m2.length ≤ 4) = true) (f3 : decide (l3.length ≤ 4 ∧ m3.length ≤ 4) = true) :
    Calls Tryz.prog 7 #[ratV p1 A1 l1.length c1 q1 B1 m1.length d1, ratV p2 A2 l2.length c2 q2 B2 m2.length d2, ratV p3 A3 l3.length c3 q3 B3 m3.length d3] w fun e w' => e = .returned (.bool true) ∧ Below w.heap.size w w' := by
  by_cases h0 : z2 = 0
  · exact field_zero p1 A1 l1 c1 q1 B1 m1 d1 p2 A2 l2 c2 q2 B2 m2 d2 p3 A3 l3 c3 q3 B3 m3 d3 w h1 h2 h3 ht mx f1 f2 f3 h0
  · exact field_ok p1 A1 l1 c1 q1 B1 m1 d1 p2 A2 l2 c2 q2 B2 m2 d2 p3 A3 l3 c3 q3 B3 m3 d3 w h1 h2 h3 ht mx f1 f2 f3 h0
theorem field_walk (p1 : Bool) (A1 : Option Addr) (c1 : Nat) (l1 : List Nat) (q1 : Bool) (B1 : Option Addr) (d1 : Nat) (m1 : List Nat) (p2 : Bool) (A2 : Option Addr) (c2 : Nat) (l2 : List Nat) (q2 : Bool) (B2 : Option Addr) (d2 : Nat) (m2 : List Nat) (p3 : Bool) (A3 : Option Addr) (c3 : Nat) (l3 : List Nat) (q3 : Bool) (B3 : Option Addr) (d3 : Nat) (m3 : List Nat) (w : World) (h1 : Sl w w.heap.size A1 c1 l1) (k1 : Sl w w.heap.size B1 d1 m1) (h2 : Sl w w.heap.size A2 c2 l2) (k2 : Sl w w.heap.size B2 d2 m2) (h3 : Sl w w.heap.size A3 c3 l3) (k3 : Sl w w.heap.size B3 d3 m3) (ht : Tabs w) (mx : Mx w) :
    Calls Tryz.prog 7 #[ratV p1 A1 l1.length c1 q1 B1 m1.length d1, ratV p2 A2 l2.length c2 q2 B2 m2.length d2, ratV p3 A3 l3.length c3 q3 B3 m3.length d3] w fun e w' => e = .returned (.bool true) ∧ Below w.heap.size w w' := by
  cases f1 : decide (l1.length ≤ 4 ∧ m1.length ≤ 4) with
  | false => exact field_few1 p1 A1 l1 c1 q1 B1 m1 d1 p2 A2 l2 c2 q2 B2 m2 d2 p3 A3 l3 c3 q3 B3 m3 d3 w ht mx f1
  | true =>
    cases f2 : decide (l2.length ≤ 4 ∧ m2.length ≤ 4) with
    | false => exact field_few2 p1 A1 l1 c1 q1 B1 m1 d1 p2 A2 l2 c2 q2 B2 m2 d2 p3 A3 l3 c3 q3 B3 m3 d3 w ht mx f1 f2
    | true =>
      cases f3 : decide (l3.length ≤ 4 ∧ m3.length ≤ 4) with
      | false => exact field_few3 p1 A1 l1 c1 q1 B1 m1 d1 p2 A2 l2 c2 q2 B2 m2 d2 p3 A3 l3 c3 q3 B3 m3 d3 w ht mx f1 f2 f3
      | true =>
        have r1 : Rv w p1 A1 c1 l1 q1 B1 d1 m1 _ 4 := ⟨_, _, ⟨h1, rfl, (of_decide_eq_true f1).1⟩, ⟨k1, rfl, (of_decide_eq_true f1).2⟩, rfl⟩
        have r2 : Rv w p2 A2 c2 l2 q2 B2 d2 m2 _ 4 := ⟨_, _, ⟨h2, rfl, (of_decide_eq_true f2).1⟩, ⟨k2, rfl, (of_decide_eq_true f2).2⟩, rfl⟩
        have r3 : Rv w p3 A3 c3 l3 q3 B3 d3 m3 _ 4 := ⟨_, _, ⟨h3, rfl, (of_decide_eq_true f3).1⟩, ⟨k3, rfl, (of_decide_eq_true f3).2⟩, rfl⟩
        exact field_main p1 A1 l1 c1 q1 B1 m1 d1 p2 A2 l2 c2 q2 B2 m2 d2 p3 A3 l3 c3 q3 B3 m3 d3 w r1 r2 r3 ht mx f1 f2 f3
end Go.Proofs.YtpfaddgcfacgdaaGreatDoor
