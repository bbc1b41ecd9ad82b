/- My texts, packed: O1, O2. -/
import Derived.Test.YtpfaddgcfacgdaaGreatDoorPk14
import Derived.Test.YtpfaddgcfacgdaaGreatDoorPl1
import Derived.Test.YtpfaddgcfacgdaaGreatDoorPm2
/- Walks of package rational: RationalOrder. -/
namespace Go.Proofs.YtpfaddgcfacgdaaGreatDoor
open Go.RowKit
set_option linter.unusedVariables false

set_option maxRecDepth 100000 in
set_option maxHeartbeats 3000000 in
theorem order_p (p1 : Bool) (A1 : Option Addr) (l1 : List Nat) (c1 : Nat) (q1 : Bool) (B1 : Option Addr) (m1 : List Nat) (d1 : Nat) (p2 : Bool) (A2 : Option Addr) (l2 : List Nat) (c2 : Nat) (q2 : Bool) (B2 : Option Addr) (m2 : List Nat) (d2 : Nat) (p3 : Bool) (A3 : Option Addr) (l3 : List Nat) (c3 : Nat) (q3 : Bool) (B3 : Option Addr) (m3 : List Nat) (d3 : Nat) {z1 z2 z3 : Rat} (w : World) (h1 : Rv w p1 A1 c1 l1 q1 B1 d1 m1 z1 4) (h2 : Rv w p2 A2 c2 l2 q2 B2 d2 m2 z2 4) (h3 : Rv w p3 A3 c3 l3 q3 B3 d3 m3 z3 4) (ht : Tabs w) (mx : Mx w) (f1 : decide (l1.length ≤ 4 ∧ m1.length ≤ 4) = true) (f2 : decide (l2.length ≤ 4 ∧ m2.length ≤ 4) = true) (f3 : decide (l3.length ≤ 4 ∧ m3.length ≤ 4) = true) (hc : (z1 - z2).num.sign = 1) :
    Calls Tryz.prog 8 #[ratV p1 A1 l1.length c1 q1 B1 m1.length d1, ratV p2 A2 l2.length c2 q2 B2 m2.length d2, ratV p3 A3 l3.length c3 q3 B3 m3.length d3] w fun e w' => e = .returned (.bool true) ∧ Below w.heap.size w w' := by
  have HC12 := Lib.hid (fun (W : World) (h : Rv W p1 A1 c1 l1 q1 B1 d1 m1 z1 4) (h' : Rv W p2 A2 c2 l2 q2 B2 d2 m2 z2 4) => (by have h := rcmp h h' (by decide) (by decide) (by decide) (by decide); rw [hc] at h; exact h : Calls Tryz.prog 33 #[.agg #[.bool p1, .slice A1 l1.length c1, .bool q1, .slice B1 m1.length d1], .agg #[.bool p2, .slice A2 l2.length c2, .bool q2, .slice B2 m2.length d2]] W fun e w' => e = .returned (.int .i64 (1)) ∧ Below W.heap.size W w'))
  have HR12 := Lib.hid (fun (W : World) (h : Rv W p1 A1 c1 l1 q1 B1 d1 m1 z1 4) (h' : Rv W p2 A2 c2 l2 q2 B2 d2 m2 z2 4) => (by have h := rrcmp h h' (by decide) (by decide) (by decide) (by decide); rw [hc] at h; exact h : Calls Tryz.prog 34 #[.agg #[.bool p1, .slice A1 l1.length c1, .bool q1, .slice B1 m1.length d1], .agg #[.bool p2, .slice A2 l2.length c2, .bool q2, .slice B2 m2.length d2]] W fun e w' => e = .returned (.int .i64 (1)) ∧ Below W.heap.size W w'))
  have hc2 : (z2 - z1).num.sign = (-1) := (rq_sub_neg z1 z2).trans ((congrArg Neg.neg hc).trans (by decide))
  have HC21 := Lib.hid (fun (W : World) (h : Rv W p2 A2 c2 l2 q2 B2 d2 m2 z2 4) (h' : Rv W p1 A1 c1 l1 q1 B1 d1 m1 z1 4) => (by have h := rcmp h h' (by decide) (by decide) (by decide) (by decide); rw [hc2] at h; exact h : Calls Tryz.prog 33 #[.agg #[.bool p2, .slice A2 l2.length c2, .bool q2, .slice B2 m2.length d2], .agg #[.bool p1, .slice A1 l1.length c1, .bool q1, .slice B1 m1.length d1]] W fun e w' => e = .returned (.int .i64 (-1)) ∧ Below W.heap.size W w'))
  have HSG := Lib.hid (fun (W : World) (A : Option Addr) (c : Nat) (l : List Nat) (Bb : Option Addr) (d : Nat) (m : List Nat) (h : Cr W A c l Bb d m (z1 - z2) 9) => (by have h := rsgn h.rv (by decide); rw [hc] at h; exact h : Calls Tryz.prog 31 #[.agg #[.bool (decide ((z1 - z2).num < 0)), .slice A l.length c, .bool false, .slice Bb m.length d]] W fun e w' => e = .returned (.int .i64 (1)) ∧ Below W.heap.size W w'))
  have HCS := Lib.hid (fun (W : World) (A : Option Addr) (c : Nat) (l : List Nat) (Bb : Option Addr) (d : Nat) (m : List Nat) (A' : Option Addr) (c' : Nat) (l' : List Nat) (B' : Option Addr) (d' : Nat) (m' : List Nat) (h : Cr W A c l Bb d m (z1 + z3) 9) (h' : Cr W A' c' l' B' d' m' (z2 + z3) 9) => (by have h := rcmp h.rv h'.rv (by decide) (by decide) (by decide) (by decide); rw [rq_add_sub, hc] at h; exact h : Calls Tryz.prog 33 #[.agg #[.bool (decide ((z1 + z3).num < 0)), .slice A l.length c, .bool false, .slice Bb m.length d], .agg #[.bool (decide ((z2 + z3).num < 0)), .slice A' l'.length c', .bool false, .slice B' m'.length d']] W fun e w' => e = .returned (.int .i64 (1)) ∧ Below W.heap.size W w'))
  have HSM := Lib.hid (fun (W : World) (A : Option Addr) (c : Nat) (l : List Nat) (Bb : Option Addr) (d : Nat) (m : List Nat) (A' : Option Addr) (c' : Nat) (l' : List Nat) (B' : Option Addr) (d' : Nat) (m' : List Nat) (h : Cr W A c l Bb d m z1 4) (h' : Cr W A' c' l' B' d' m' z2 4) => (by have h := grsame h h' (by decide) (by decide); rw [decide_eq_false (show ¬ z1 = z2 from fun e => by rw [rq_eq_of_sub.2 e] at hc; exact absurd hc (by decide))] at h; exact h : Calls Tryz.prog 14 #[.agg #[.bool (decide (z1.num < 0)), .slice A l.length c, .bool false, .slice Bb m.length d], .agg #[.bool (decide (z2.num < 0)), .slice A' l'.length c', .bool false, .slice B' m'.length d']] W fun e w' => e = .returned (.bool false) ∧ Below W.heap.size W w'))
  clear hc hc2
  have HF1 := Lib.hid (fun (W : World) => gfew p1 A1 c1 l1.length q1 B1 d1 m1.length true (Lib.hid f1) W)
  have HF2 := Lib.hid (fun (W : World) => gfew p2 A2 c2 l2.length q2 B2 d2 m2.length true (Lib.hid f2) W)
  have HF3 := Lib.hid (fun (W : World) => gfew p3 A3 c3 l3.length q3 B3 d3 m3.length true (Lib.hid f3) W)
  clear f1 f2 f3
  unfold ratV
  go_enter Tryz.func8, Tryz.ntmps8
  go_wp2_with fail
  have t1 : Four (((w.alloc (.cells #[.bool p1, .slice A1 l1.length c1, .bool q1, .slice B1 m1.length d1] 26)).alloc (.cells #[.bool p2, .slice A2 l2.length c2, .bool q2, .slice B2 m2.length d2] 26)).alloc (.cells #[.bool p3, .slice A3 l3.length c3, .bool q3, .slice B3 m3.length d3] 26)) w.heap.size (.bool p1) (.slice A1 l1.length c1) (.bool q1) (.slice B1 m1.length d1) := ((Four.new_ w (.bool p1) (.slice A1 l1.length c1) (.bool q1) (.slice B1 m1.length d1) 26).alloc _).alloc _
  have t2 : Four (((w.alloc (.cells #[.bool p1, .slice A1 l1.length c1, .bool q1, .slice B1 m1.length d1] 26)).alloc (.cells #[.bool p2, .slice A2 l2.length c2, .bool q2, .slice B2 m2.length d2] 26)).alloc (.cells #[.bool p3, .slice A3 l3.length c3, .bool q3, .slice B3 m3.length d3] 26)) (w.heap.size + 1) (.bool p2) (.slice A2 l2.length c2) (.bool q2) (.slice B2 m2.length d2) := by simpa only [World.size_alloc, Nat.add_assoc, Nat.reduceAdd] using (Four.new_ (w.alloc (.cells #[.bool p1, .slice A1 l1.length c1, .bool q1, .slice B1 m1.length d1] 26)) (.bool p2) (.slice A2 l2.length c2) (.bool q2) (.slice B2 m2.length d2) 26).alloc _
  have t3 : Four (((w.alloc (.cells #[.bool p1, .slice A1 l1.length c1, .bool q1, .slice B1 m1.length d1] 26)).alloc (.cells #[.bool p2, .slice A2 l2.length c2, .bool q2, .slice B2 m2.length d2] 26)).alloc (.cells #[.bool p3, .slice A3 l3.length c3, .bool q3, .slice B3 m3.length d3] 26)) (w.heap.size + 2) (.bool p3) (.slice A3 l3.length c3) (.bool q3) (.slice B3 m3.length d3) := by simpa only [World.size_alloc, Nat.add_assoc, Nat.reduceAdd] using Four.new_ ((w.alloc (.cells #[.bool p1, .slice A1 l1.length c1, .bool q1, .slice B1 m1.length d1] 26)).alloc (.cells #[.bool p2, .slice A2 l2.length c2, .bool q2, .slice B2 m2.length d2] 26)) (.bool p3) (.slice A3 l3.length c3) (.bool q3) (.slice B3 m3.length d3) 26
  have bel : Below w.heap.size w (((w.alloc (.cells #[.bool p1, .slice A1 l1.length c1, .bool q1, .slice B1 m1.length d1] 26)).alloc (.cells #[.bool p2, .slice A2 l2.length c2, .bool q2, .slice B2 m2.length d2] 26)).alloc (.cells #[.bool p3, .slice A3 l3.length c3, .bool q3, .slice B3 m3.length d3] 26)) := (((Below.refl _ _).alloc (Nat.le_refl _) _).alloc (by simp only [World.size_alloc]; omega) _).alloc (by simp only [World.size_alloc]; omega) _
  generalize (((w.alloc (.cells #[.bool p1, .slice A1 l1.length c1, .bool q1, .slice B1 m1.length d1] 26)).alloc (.cells #[.bool p2, .slice A2 l2.length c2, .bool q2, .slice B2 m2.length d2] 26)).alloc (.cells #[.bool p3, .slice A3 l3.length c3, .bool q3, .slice B3 m3.length d3] 26)) = wx at t1 t2 t3 bel ⊢
  refine (rknown_ok _ (ht.below bel) (mx.below_ bel)).mono ?_
  rintro e w2 ⟨rfl, hb⟩
  replace t1 := t1.below hb t1.lt
  replace t2 := t2.below hb t2.lt
  replace t3 := t3.below hb t3.lt
  replace bel := bel.trans (hb.mono bel.size)
  clear hb
  have t1_0 := t1.c0
  have t1_1 := t1.c1
  have t1_2 := t1.c2
  have t1_3 := t1.c3
  go_wp2_with fail
  refine (HF1.out _).mono ?_
  rintro e w3 ⟨rfl, hb⟩
  clear t1_0 t1_1 t1_2 t1_3
  replace t1 := t1.below hb t1.lt
  replace t2 := t2.below hb t2.lt
  replace t3 := t3.below hb t3.lt
  replace bel := bel.trans (hb.mono bel.size)
  clear hb
  have t2_0 := t2.c0
  have t2_1 := t2.c1
  have t2_2 := t2.c2
  have t2_3 := t2.c3
  go_wp2_with fail
  refine (HF2.out _).mono ?_
  rintro e w4 ⟨rfl, hb⟩
  clear t2_0 t2_1 t2_2 t2_3
  replace t1 := t1.below hb t1.lt
  replace t2 := t2.below hb t2.lt
  replace t3 := t3.below hb t3.lt
  replace bel := bel.trans (hb.mono bel.size)
  clear hb
  have t3_0 := t3.c0
  have t3_1 := t3.c1
  have t3_2 := t3.c2
  have t3_3 := t3.c3
  go_wp2_with fail
  refine (HF3.out _).mono ?_
  rintro e w5 ⟨rfl, hb⟩
  clear t3_0 t3_1 t3_2 t3_3
  replace t1 := t1.below hb t1.lt
  replace t2 := t2.below hb t2.lt
  replace t3 := t3.below hb t3.lt
  replace bel := bel.trans (hb.mono bel.size)
  clear hb
  clear HF1 HF2 HF3
  have X := h1.below bel
  have Y := h2.below bel
  have Z := h3.below bel
  have t1_0 := t1.c0
  have t1_1 := t1.c1
  have t1_2 := t1.c2
  have t1_3 := t1.c3
  have t2_0 := t2.c0
  have t2_1 := t2.c1
  have t2_2 := t2.c2
  have t2_3 := t2.c3
  go_wp2_with fail
  refine (HC12.out _ X Y).mono ?_
  rintro e w6 ⟨rfl, hb⟩
  clear t1_0 t1_1 t1_2 t1_3 t2_0 t2_1 t2_2 t2_3
  replace t1 := t1.below hb t1.lt
  replace t2 := t2.below hb t2.lt
  replace t3 := t3.below hb t3.lt
  replace bel := bel.trans (hb.mono bel.size)
  replace X := X.below hb
  replace Y := Y.below hb
  replace Z := Z.below hb
  clear hb
  go_upto_region 6 with (fail)
  replace t1 := t1.drew
  replace t2 := t2.drew
  replace t3 := t3.drew
  replace bel := bDrew1 bel
  replace X := X.drew
  replace Y := Y.drew
  replace Z := Z.drew
  have hw : IntKind.i64.wrap (-1) = (-1) := by decide
  go_region_held3 (fun w' => w'.cell? ⟨w.heap.size, 0, none⟩ = some (.bool p1) ∧ w'.cell? ⟨w.heap.size, 1, none⟩ = some (.slice A1 l1.length c1) ∧ w'.cell? ⟨w.heap.size, 2, none⟩ = some (.bool q1) ∧ w'.cell? ⟨w.heap.size, 3, none⟩ = some (.slice B1 m1.length d1) ∧ w'.cell? ⟨w.heap.size + 1, 0, none⟩ = some (.bool p2) ∧ w'.cell? ⟨w.heap.size + 1, 1, none⟩ = some (.slice A2 l2.length c2) ∧ w'.cell? ⟨w.heap.size + 1, 2, none⟩ = some (.bool q2) ∧ w'.cell? ⟨w.heap.size + 1, 3, none⟩ = some (.slice B2 m2.length d2) ∧ w'.cell? ⟨w.heap.size + 2, 0, none⟩ = some (.bool p3) ∧ w'.cell? ⟨w.heap.size + 2, 1, none⟩ = some (.slice A3 l3.length c3) ∧ w'.cell? ⟨w.heap.size + 2, 2, none⟩ = some (.bool q3) ∧ w'.cell? ⟨w.heap.size + 2, 3, none⟩ = some (.slice B3 m3.length d3))
    (with_reducible exact ⟨t1.c0, t1.c1, t1.c2, t1.c3, t2.c0, t2.c1, t2.c2, t2.c3, t3.c0, t3.c1, t3.c2, t3.c3⟩)
    (first
      | (go_at_call 34; (with_reducible refine (HR12.out _ X Y).mono ?_); rintro e wa ⟨rfl, hb⟩; replace t1 := t1.below hb t1.lt; replace t2 := t2.below hb t2.lt; replace t3 := t3.below hb t3.lt; replace bel := bel.trans (hb.mono bel.size); replace X := X.below hb; replace Y := Y.below hb; replace Z := Z.below hb; clear hb)
      | (go_at_call 25; (with_reducible refine (rsub X Y (by decide) (by decide) (by decide) (by decide)).mono ?_); rintro e wa ⟨A5, c5, l5, B5, d5, m5, rfl, E5, hb⟩; replace t1 := t1.below hb t1.lt; replace t2 := t2.below hb t2.lt; replace t3 := t3.below hb t3.lt; replace bel := bel.trans (hb.mono bel.size); replace X := X.below hb; replace Y := Y.below hb; replace Z := Z.below hb; clear hb)
      | (go_at_call 31; (with_reducible refine (HSG.out _ _ _ _ _ _ _ E5).mono ?_); rintro e wa ⟨rfl, hb⟩; replace t1 := t1.below hb t1.lt; replace t2 := t2.below hb t2.lt; replace t3 := t3.below hb t3.lt; replace bel := bel.trans (hb.mono bel.size); replace X := X.below hb; replace Y := Y.below hb; replace Z := Z.below hb; replace E5 := E5.below hb; clear hb)
      | (go_at_call 33; (with_reducible refine (HC21.out _ Y X).mono ?_); rintro e wa ⟨rfl, hb⟩; replace t1 := t1.below hb t1.lt; replace t2 := t2.below hb t2.lt; replace t3 := t3.below hb t3.lt; replace bel := bel.trans (hb.mono bel.size); replace X := X.below hb; replace Y := Y.below hb; replace Z := Z.below hb; replace E5 := E5.below hb; clear hb)
      | (go_at_call 23; (with_reducible refine (radd X Z (by decide) (by decide) (by decide) (by decide)).mono ?_); rintro e wa ⟨A6, c6, l6, B6, d6, m6, rfl, E6, hb⟩; replace t1 := t1.below hb t1.lt; replace t2 := t2.below hb t2.lt; replace t3 := t3.below hb t3.lt; replace bel := bel.trans (hb.mono bel.size); replace X := X.below hb; replace Y := Y.below hb; replace Z := Z.below hb; replace E5 := E5.below hb; clear hb)
      | (go_at_call 23; (with_reducible refine (radd Y Z (by decide) (by decide) (by decide) (by decide)).mono ?_); rintro e wa ⟨A7, c7, l7, B7, d7, m7, rfl, E7, hb⟩; replace t1 := t1.below hb t1.lt; replace t2 := t2.below hb t2.lt; replace t3 := t3.below hb t3.lt; replace bel := bel.trans (hb.mono bel.size); replace X := X.below hb; replace Y := Y.below hb; replace Z := Z.below hb; replace E5 := E5.below hb; replace E6 := E6.below hb; clear hb)
      | (go_at_call 33; (with_reducible refine (HCS.out _ _ _ _ _ _ _ _ _ _ _ _ _ E6 E7).mono ?_); rintro e wa ⟨rfl, hb⟩; replace t1 := t1.below hb t1.lt; replace t2 := t2.below hb t2.lt; replace t3 := t3.below hb t3.lt; replace bel := bel.trans (hb.mono bel.size); replace X := X.below hb; replace Y := Y.below hb; replace Z := Z.below hb; replace E5 := E5.below hb; replace E6 := E6.below hb; replace E7 := E7.below hb; clear hb))
  clear E5 E6 E7
  go_upto_region 8 with (fail)
  replace t1 := t1.drew
  replace t2 := t2.drew
  replace t3 := t3.drew
  replace bel := bDrew1 bel
  replace X := X.drew
  replace Y := Y.drew
  replace Z := Z.drew
  go_region_held3 (fun w' => w'.cell? ⟨w.heap.size, 0, none⟩ = some (.bool p1) ∧ w'.cell? ⟨w.heap.size, 1, none⟩ = some (.slice A1 l1.length c1) ∧ w'.cell? ⟨w.heap.size, 2, none⟩ = some (.bool q1) ∧ w'.cell? ⟨w.heap.size, 3, none⟩ = some (.slice B1 m1.length d1) ∧ w'.cell? ⟨w.heap.size + 1, 0, none⟩ = some (.bool p2) ∧ w'.cell? ⟨w.heap.size + 1, 1, none⟩ = some (.slice A2 l2.length c2) ∧ w'.cell? ⟨w.heap.size + 1, 2, none⟩ = some (.bool q2) ∧ w'.cell? ⟨w.heap.size + 1, 3, none⟩ = some (.slice B2 m2.length d2))
    (with_reducible exact ⟨t1.c0, t1.c1, t1.c2, t1.c3, t2.c0, t2.c1, t2.c2, t2.c3⟩)
    (first
      | (go_at_call 13; (with_reducible refine (rcln X (by decide) (by decide)).mono ?_); rintro e wa ⟨A5, c5, l5, B5, d5, m5, rfl, E5, hb⟩; replace t1 := t1.below hb t1.lt; replace t2 := t2.below hb t2.lt; replace t3 := t3.below hb t3.lt; replace bel := bel.trans (hb.mono bel.size); replace X := X.below hb; replace Y := Y.below hb; replace Z := Z.below hb; clear hb)
      | (go_at_call 13; (with_reducible refine (rcln Y (by decide) (by decide)).mono ?_); rintro e wa ⟨A6, c6, l6, B6, d6, m6, rfl, E6, hb⟩; replace t1 := t1.below hb t1.lt; replace t2 := t2.below hb t2.lt; replace t3 := t3.below hb t3.lt; replace bel := bel.trans (hb.mono bel.size); replace X := X.below hb; replace Y := Y.below hb; replace Z := Z.below hb; replace E5 := E5.below hb; clear hb)
      | (go_at_call 14; (with_reducible refine (HSM.out _ _ _ _ _ _ _ _ _ _ _ _ _ E5 E6).mono ?_); rintro e wa ⟨rfl, hb⟩; replace t1 := t1.below hb t1.lt; replace t2 := t2.below hb t2.lt; replace t3 := t3.below hb t3.lt; replace bel := bel.trans (hb.mono bel.size); replace X := X.below hb; replace Y := Y.below hb; replace Z := Z.below hb; replace E5 := E5.below hb; replace E6 := E6.below hb; clear hb))
  clear E5 E6
  go_upto_region 10 with (fail)
  go_wp2_with fail
  go_ret
  exact ⟨rfl, bel⟩

end Go.Proofs.YtpfaddgcfacgdaaGreatDoor
/- Walks of package rational: RationalOrder. -/
namespace Go.Proofs.YtpfaddgcfacgdaaGreatDoor
open Go.RowKit
set_option linter.unusedVariables false

set_option maxRecDepth 100000 in
set_option maxHeartbeats 3000000 in
theorem order_za (p1 : Bool) (A1 : Option Addr) (l1 : List Nat) (c1 : Nat) (q1 : Bool) (B1 : Option Addr) (m1 : List Nat) (d1 : Nat) (p2 : Bool) (A2 : Option Addr) (l2 : List Nat) (c2 : Nat) (q2 : Bool) (B2 : Option Addr) (m2 : List Nat) (d2 : Nat) (p3 : Bool) (A3 : Option Addr) (l3 : List Nat) (c3 : Nat) (q3 : Bool) (B3 : Option Addr) (m3 : List Nat) (d3 : Nat) {z1 z2 z3 : Rat} (w : World) (h1 : Rv w p1 A1 c1 l1 q1 B1 d1 m1 z1 4) (h2 : Rv w p2 A2 c2 l2 q2 B2 d2 m2 z2 4) (h3 : Rv w p3 A3 c3 l3 q3 B3 d3 m3 z3 4) (ht : Tabs w) (mx : Mx w) (f1 : decide (l1.length ≤ 4 ∧ m1.length ≤ 4) = true) (f2 : decide (l2.length ≤ 4 ∧ m2.length ≤ 4) = true) (f3 : decide (l3.length ≤ 4 ∧ m3.length ≤ 4) = true) (hc : (z1 - z2).num.sign = 0) (hd : 0 < (z2 - z3).num.sign) :
    Calls Tryz.prog 8 #[ratV p1 A1 l1.length c1 q1 B1 m1.length d1, ratV p2 A2 l2.length c2 q2 B2 m2.length d2, ratV p3 A3 l3.length c3 q3 B3 m3.length d3] w fun e w' => e = .returned (.bool true) ∧ Below w.heap.size w w' := by
  have HC12 := Lib.hid (fun (W : World) (h : Rv W p1 A1 c1 l1 q1 B1 d1 m1 z1 4) (h' : Rv W p2 A2 c2 l2 q2 B2 d2 m2 z2 4) => (by have h := rcmp h h' (by decide) (by decide) (by decide) (by decide); rw [hc] at h; exact h : Calls Tryz.prog 33 #[.agg #[.bool p1, .slice A1 l1.length c1, .bool q1, .slice B1 m1.length d1], .agg #[.bool p2, .slice A2 l2.length c2, .bool q2, .slice B2 m2.length d2]] W fun e w' => e = .returned (.int .i64 (0)) ∧ Below W.heap.size W w'))
  have HR12 := Lib.hid (fun (W : World) (h : Rv W p1 A1 c1 l1 q1 B1 d1 m1 z1 4) (h' : Rv W p2 A2 c2 l2 q2 B2 d2 m2 z2 4) => (by have h := rrcmp h h' (by decide) (by decide) (by decide) (by decide); rw [hc] at h; exact h : Calls Tryz.prog 34 #[.agg #[.bool p1, .slice A1 l1.length c1, .bool q1, .slice B1 m1.length d1], .agg #[.bool p2, .slice A2 l2.length c2, .bool q2, .slice B2 m2.length d2]] W fun e w' => e = .returned (.int .i64 (0)) ∧ Below W.heap.size W w'))
  have hc2 : (z2 - z1).num.sign = (0) := (rq_sub_neg z1 z2).trans ((congrArg Neg.neg hc).trans (by decide))
  have HC21 := Lib.hid (fun (W : World) (h : Rv W p2 A2 c2 l2 q2 B2 d2 m2 z2 4) (h' : Rv W p1 A1 c1 l1 q1 B1 d1 m1 z1 4) => (by have h := rcmp h h' (by decide) (by decide) (by decide) (by decide); rw [hc2] at h; exact h : Calls Tryz.prog 33 #[.agg #[.bool p2, .slice A2 l2.length c2, .bool q2, .slice B2 m2.length d2], .agg #[.bool p1, .slice A1 l1.length c1, .bool q1, .slice B1 m1.length d1]] W fun e w' => e = .returned (.int .i64 (0)) ∧ Below W.heap.size W w'))
  have HSG := Lib.hid (fun (W : World) (A : Option Addr) (c : Nat) (l : List Nat) (Bb : Option Addr) (d : Nat) (m : List Nat) (h : Cr W A c l Bb d m (z1 - z2) 9) => (by have h := rsgn h.rv (by decide); rw [hc] at h; exact h : Calls Tryz.prog 31 #[.agg #[.bool (decide ((z1 - z2).num < 0)), .slice A l.length c, .bool false, .slice Bb m.length d]] W fun e w' => e = .returned (.int .i64 (0)) ∧ Below W.heap.size W w'))
  have HCS := Lib.hid (fun (W : World) (A : Option Addr) (c : Nat) (l : List Nat) (Bb : Option Addr) (d : Nat) (m : List Nat) (A' : Option Addr) (c' : Nat) (l' : List Nat) (B' : Option Addr) (d' : Nat) (m' : List Nat) (h : Cr W A c l Bb d m (z1 + z3) 9) (h' : Cr W A' c' l' B' d' m' (z2 + z3) 9) => (by have h := rcmp h.rv h'.rv (by decide) (by decide) (by decide) (by decide); rw [rq_add_sub, hc] at h; exact h : Calls Tryz.prog 33 #[.agg #[.bool (decide ((z1 + z3).num < 0)), .slice A l.length c, .bool false, .slice Bb m.length d], .agg #[.bool (decide ((z2 + z3).num < 0)), .slice A' l'.length c', .bool false, .slice B' m'.length d']] W fun e w' => e = .returned (.int .i64 (0)) ∧ Below W.heap.size W w'))
  have HSM := Lib.hid (fun (W : World) (A : Option Addr) (c : Nat) (l : List Nat) (Bb : Option Addr) (d : Nat) (m : List Nat) (A' : Option Addr) (c' : Nat) (l' : List Nat) (B' : Option Addr) (d' : Nat) (m' : List Nat) (h : Cr W A c l Bb d m z1 4) (h' : Cr W A' c' l' B' d' m' z2 4) => (by have h := grsame h h' (by decide) (by decide); rw [decide_eq_true (show z1 = z2 from rq_eq_of_sub.1 hc)] at h; exact h : Calls Tryz.prog 14 #[.agg #[.bool (decide (z1.num < 0)), .slice A l.length c, .bool false, .slice Bb m.length d], .agg #[.bool (decide (z2.num < 0)), .slice A' l'.length c', .bool false, .slice B' m'.length d']] W fun e w' => e = .returned (.bool true) ∧ Below W.heap.size W w'))
  obtain ⟨u, hu⟩ : ∃ u, u = (z2 - z3).num.sign := ⟨_, rfl⟩
  have HC23 := Lib.hid (fun (W : World) (h : Rv W p2 A2 c2 l2 q2 B2 d2 m2 z2 4) (h' : Rv W p3 A3 c3 l3 q3 B3 d3 m3 z3 4) => (by have h := rcmp h h' (by decide) (by decide) (by decide) (by decide); rw [← hu] at h; exact h : Calls Tryz.prog 33 #[.agg #[.bool p2, .slice A2 l2.length c2, .bool q2, .slice B2 m2.length d2], .agg #[.bool p3, .slice A3 l3.length c3, .bool q3, .slice B3 m3.length d3]] W fun e w' => e = .returned (.int .i64 u) ∧ Below W.heap.size W w'))
  have u1 : 0 < u := by rw [hu]; exact hd
  have u2 : decide (0 < u) = true := decide_eq_true u1
  clear hc hc2 hu hd
  have HF1 := Lib.hid (fun (W : World) => gfew p1 A1 c1 l1.length q1 B1 d1 m1.length true (Lib.hid f1) W)
  have HF2 := Lib.hid (fun (W : World) => gfew p2 A2 c2 l2.length q2 B2 d2 m2.length true (Lib.hid f2) W)
  have HF3 := Lib.hid (fun (W : World) => gfew p3 A3 c3 l3.length q3 B3 d3 m3.length true (Lib.hid f3) W)
  clear f1 f2 f3
  unfold ratV
  go_enter Tryz.func8, Tryz.ntmps8
  go_wp2_with fail
  have t1 : Four (((w.alloc (.cells #[.bool p1, .slice A1 l1.length c1, .bool q1, .slice B1 m1.length d1] 26)).alloc (.cells #[.bool p2, .slice A2 l2.length c2, .bool q2, .slice B2 m2.length d2] 26)).alloc (.cells #[.bool p3, .slice A3 l3.length c3, .bool q3, .slice B3 m3.length d3] 26)) w.heap.size (.bool p1) (.slice A1 l1.length c1) (.bool q1) (.slice B1 m1.length d1) := ((Four.new_ w (.bool p1) (.slice A1 l1.length c1) (.bool q1) (.slice B1 m1.length d1) 26).alloc _).alloc _
  have t2 : Four (((w.alloc (.cells #[.bool p1, .slice A1 l1.length c1, .bool q1, .slice B1 m1.length d1] 26)).alloc (.cells #[.bool p2, .slice A2 l2.length c2, .bool q2, .slice B2 m2.length d2] 26)).alloc (.cells #[.bool p3, .slice A3 l3.length c3, .bool q3, .slice B3 m3.length d3] 26)) (w.heap.size + 1) (.bool p2) (.slice A2 l2.length c2) (.bool q2) (.slice B2 m2.length d2) := by simpa only [World.size_alloc, Nat.add_assoc, Nat.reduceAdd] using (Four.new_ (w.alloc (.cells #[.bool p1, .slice A1 l1.length c1, .bool q1, .slice B1 m1.length d1] 26)) (.bool p2) (.slice A2 l2.length c2) (.bool q2) (.slice B2 m2.length d2) 26).alloc _
  have t3 : Four (((w.alloc (.cells #[.bool p1, .slice A1 l1.length c1, .bool q1, .slice B1 m1.length d1] 26)).alloc (.cells #[.bool p2, .slice A2 l2.length c2, .bool q2, .slice B2 m2.length d2] 26)).alloc (.cells #[.bool p3, .slice A3 l3.length c3, .bool q3, .slice B3 m3.length d3] 26)) (w.heap.size + 2) (.bool p3) (.slice A3 l3.length c3) (.bool q3) (.slice B3 m3.length d3) := by simpa only [World.size_alloc, Nat.add_assoc, Nat.reduceAdd] using Four.new_ ((w.alloc (.cells #[.bool p1, .slice A1 l1.length c1, .bool q1, .slice B1 m1.length d1] 26)).alloc (.cells #[.bool p2, .slice A2 l2.length c2, .bool q2, .slice B2 m2.length d2] 26)) (.bool p3) (.slice A3 l3.length c3) (.bool q3) (.slice B3 m3.length d3) 26
  have bel : Below w.heap.size w (((w.alloc (.cells #[.bool p1, .slice A1 l1.length c1, .bool q1, .slice B1 m1.length d1] 26)).alloc (.cells #[.bool p2, .slice A2 l2.length c2, .bool q2, .slice B2 m2.length d2] 26)).alloc (.cells #[.bool p3, .slice A3 l3.length c3, .bool q3, .slice B3 m3.length d3] 26)) := (((Below.refl _ _).alloc (Nat.le_refl _) _).alloc (by simp only [World.size_alloc]; omega) _).alloc (by simp only [World.size_alloc]; omega) _
  generalize (((w.alloc (.cells #[.bool p1, .slice A1 l1.length c1, .bool q1, .slice B1 m1.length d1] 26)).alloc (.cells #[.bool p2, .slice A2 l2.length c2, .bool q2, .slice B2 m2.length d2] 26)).alloc (.cells #[.bool p3, .slice A3 l3.length c3, .bool q3, .slice B3 m3.length d3] 26)) = wx at t1 t2 t3 bel ⊢
  refine (rknown_ok _ (ht.below bel) (mx.below_ bel)).mono ?_
  rintro e w2 ⟨rfl, hb⟩
  replace t1 := t1.below hb t1.lt
  replace t2 := t2.below hb t2.lt
  replace t3 := t3.below hb t3.lt
  replace bel := bel.trans (hb.mono bel.size)
  clear hb
  have t1_0 := t1.c0
  have t1_1 := t1.c1
  have t1_2 := t1.c2
  have t1_3 := t1.c3
  go_wp2_with fail
  refine (HF1.out _).mono ?_
  rintro e w3 ⟨rfl, hb⟩
  clear t1_0 t1_1 t1_2 t1_3
  replace t1 := t1.below hb t1.lt
  replace t2 := t2.below hb t2.lt
  replace t3 := t3.below hb t3.lt
  replace bel := bel.trans (hb.mono bel.size)
  clear hb
  have t2_0 := t2.c0
  have t2_1 := t2.c1
  have t2_2 := t2.c2
  have t2_3 := t2.c3
  go_wp2_with fail
  refine (HF2.out _).mono ?_
  rintro e w4 ⟨rfl, hb⟩
  clear t2_0 t2_1 t2_2 t2_3
  replace t1 := t1.below hb t1.lt
  replace t2 := t2.below hb t2.lt
  replace t3 := t3.below hb t3.lt
  replace bel := bel.trans (hb.mono bel.size)
  clear hb
  have t3_0 := t3.c0
  have t3_1 := t3.c1
  have t3_2 := t3.c2
  have t3_3 := t3.c3
  go_wp2_with fail
  refine (HF3.out _).mono ?_
  rintro e w5 ⟨rfl, hb⟩
  clear t3_0 t3_1 t3_2 t3_3
  replace t1 := t1.below hb t1.lt
  replace t2 := t2.below hb t2.lt
  replace t3 := t3.below hb t3.lt
  replace bel := bel.trans (hb.mono bel.size)
  clear hb
  clear HF1 HF2 HF3
  have X := h1.below bel
  have Y := h2.below bel
  have Z := h3.below bel
  have t1_0 := t1.c0
  have t1_1 := t1.c1
  have t1_2 := t1.c2
  have t1_3 := t1.c3
  have t2_0 := t2.c0
  have t2_1 := t2.c1
  have t2_2 := t2.c2
  have t2_3 := t2.c3
  go_wp2_with fail
  refine (HC12.out _ X Y).mono ?_
  rintro e w6 ⟨rfl, hb⟩
  clear t1_0 t1_1 t1_2 t1_3 t2_0 t2_1 t2_2 t2_3
  replace t1 := t1.below hb t1.lt
  replace t2 := t2.below hb t2.lt
  replace t3 := t3.below hb t3.lt
  replace bel := bel.trans (hb.mono bel.size)
  replace X := X.below hb
  replace Y := Y.below hb
  replace Z := Z.below hb
  clear hb
  go_upto_region 6 with (fail)
  replace t1 := t1.drew
  replace t2 := t2.drew
  replace t3 := t3.drew
  replace bel := bDrew1 bel
  replace X := X.drew
  replace Y := Y.drew
  replace Z := Z.drew
  have hw : IntKind.i64.wrap (0) = (0) := by decide
  go_region_held3 (fun w' => w'.cell? ⟨w.heap.size, 0, none⟩ = some (.bool p1) ∧ w'.cell? ⟨w.heap.size, 1, none⟩ = some (.slice A1 l1.length c1) ∧ w'.cell? ⟨w.heap.size, 2, none⟩ = some (.bool q1) ∧ w'.cell? ⟨w.heap.size, 3, none⟩ = some (.slice B1 m1.length d1) ∧ w'.cell? ⟨w.heap.size + 1, 0, none⟩ = some (.bool p2) ∧ w'.cell? ⟨w.heap.size + 1, 1, none⟩ = some (.slice A2 l2.length c2) ∧ w'.cell? ⟨w.heap.size + 1, 2, none⟩ = some (.bool q2) ∧ w'.cell? ⟨w.heap.size + 1, 3, none⟩ = some (.slice B2 m2.length d2) ∧ w'.cell? ⟨w.heap.size + 2, 0, none⟩ = some (.bool p3) ∧ w'.cell? ⟨w.heap.size + 2, 1, none⟩ = some (.slice A3 l3.length c3) ∧ w'.cell? ⟨w.heap.size + 2, 2, none⟩ = some (.bool q3) ∧ w'.cell? ⟨w.heap.size + 2, 3, none⟩ = some (.slice B3 m3.length d3))
    (with_reducible exact ⟨t1.c0, t1.c1, t1.c2, t1.c3, t2.c0, t2.c1, t2.c2, t2.c3, t3.c0, t3.c1, t3.c2, t3.c3⟩)
    (first
      | (go_at_call 34; (with_reducible refine (HR12.out _ X Y).mono ?_); rintro e wa ⟨rfl, hb⟩; replace t1 := t1.below hb t1.lt; replace t2 := t2.below hb t2.lt; replace t3 := t3.below hb t3.lt; replace bel := bel.trans (hb.mono bel.size); replace X := X.below hb; replace Y := Y.below hb; replace Z := Z.below hb; clear hb)
      | (go_at_call 25; (with_reducible refine (rsub X Y (by decide) (by decide) (by decide) (by decide)).mono ?_); rintro e wa ⟨A5, c5, l5, B5, d5, m5, rfl, E5, hb⟩; replace t1 := t1.below hb t1.lt; replace t2 := t2.below hb t2.lt; replace t3 := t3.below hb t3.lt; replace bel := bel.trans (hb.mono bel.size); replace X := X.below hb; replace Y := Y.below hb; replace Z := Z.below hb; clear hb)
      | (go_at_call 31; (with_reducible refine (HSG.out _ _ _ _ _ _ _ E5).mono ?_); rintro e wa ⟨rfl, hb⟩; replace t1 := t1.below hb t1.lt; replace t2 := t2.below hb t2.lt; replace t3 := t3.below hb t3.lt; replace bel := bel.trans (hb.mono bel.size); replace X := X.below hb; replace Y := Y.below hb; replace Z := Z.below hb; replace E5 := E5.below hb; clear hb)
      | (go_at_call 33; (with_reducible refine (HC21.out _ Y X).mono ?_); rintro e wa ⟨rfl, hb⟩; replace t1 := t1.below hb t1.lt; replace t2 := t2.below hb t2.lt; replace t3 := t3.below hb t3.lt; replace bel := bel.trans (hb.mono bel.size); replace X := X.below hb; replace Y := Y.below hb; replace Z := Z.below hb; replace E5 := E5.below hb; clear hb)
      | (go_at_call 23; (with_reducible refine (radd X Z (by decide) (by decide) (by decide) (by decide)).mono ?_); rintro e wa ⟨A6, c6, l6, B6, d6, m6, rfl, E6, hb⟩; replace t1 := t1.below hb t1.lt; replace t2 := t2.below hb t2.lt; replace t3 := t3.below hb t3.lt; replace bel := bel.trans (hb.mono bel.size); replace X := X.below hb; replace Y := Y.below hb; replace Z := Z.below hb; replace E5 := E5.below hb; clear hb)
      | (go_at_call 23; (with_reducible refine (radd Y Z (by decide) (by decide) (by decide) (by decide)).mono ?_); rintro e wa ⟨A7, c7, l7, B7, d7, m7, rfl, E7, hb⟩; replace t1 := t1.below hb t1.lt; replace t2 := t2.below hb t2.lt; replace t3 := t3.below hb t3.lt; replace bel := bel.trans (hb.mono bel.size); replace X := X.below hb; replace Y := Y.below hb; replace Z := Z.below hb; replace E5 := E5.below hb; replace E6 := E6.below hb; clear hb)
      | (go_at_call 33; (with_reducible refine (HCS.out _ _ _ _ _ _ _ _ _ _ _ _ _ E6 E7).mono ?_); rintro e wa ⟨rfl, hb⟩; replace t1 := t1.below hb t1.lt; replace t2 := t2.below hb t2.lt; replace t3 := t3.below hb t3.lt; replace bel := bel.trans (hb.mono bel.size); replace X := X.below hb; replace Y := Y.below hb; replace Z := Z.below hb; replace E5 := E5.below hb; replace E6 := E6.below hb; replace E7 := E7.below hb; clear hb))
  clear E5 E6 E7
  go_upto_region 8 with (fail)
  replace t1 := t1.drew
  replace t2 := t2.drew
  replace t3 := t3.drew
  replace bel := bDrew1 bel
  replace X := X.drew
  replace Y := Y.drew
  replace Z := Z.drew
  go_region_held3 (fun w' => w'.cell? ⟨w.heap.size, 0, none⟩ = some (.bool p1) ∧ w'.cell? ⟨w.heap.size, 1, none⟩ = some (.slice A1 l1.length c1) ∧ w'.cell? ⟨w.heap.size, 2, none⟩ = some (.bool q1) ∧ w'.cell? ⟨w.heap.size, 3, none⟩ = some (.slice B1 m1.length d1) ∧ w'.cell? ⟨w.heap.size + 1, 0, none⟩ = some (.bool p2) ∧ w'.cell? ⟨w.heap.size + 1, 1, none⟩ = some (.slice A2 l2.length c2) ∧ w'.cell? ⟨w.heap.size + 1, 2, none⟩ = some (.bool q2) ∧ w'.cell? ⟨w.heap.size + 1, 3, none⟩ = some (.slice B2 m2.length d2))
    (with_reducible exact ⟨t1.c0, t1.c1, t1.c2, t1.c3, t2.c0, t2.c1, t2.c2, t2.c3⟩)
    (first
      | (go_at_call 13; (with_reducible refine (rcln X (by decide) (by decide)).mono ?_); rintro e wa ⟨A5, c5, l5, B5, d5, m5, rfl, E5, hb⟩; replace t1 := t1.below hb t1.lt; replace t2 := t2.below hb t2.lt; replace t3 := t3.below hb t3.lt; replace bel := bel.trans (hb.mono bel.size); replace X := X.below hb; replace Y := Y.below hb; replace Z := Z.below hb; clear hb)
      | (go_at_call 13; (with_reducible refine (rcln Y (by decide) (by decide)).mono ?_); rintro e wa ⟨A6, c6, l6, B6, d6, m6, rfl, E6, hb⟩; replace t1 := t1.below hb t1.lt; replace t2 := t2.below hb t2.lt; replace t3 := t3.below hb t3.lt; replace bel := bel.trans (hb.mono bel.size); replace X := X.below hb; replace Y := Y.below hb; replace Z := Z.below hb; replace E5 := E5.below hb; clear hb)
      | (go_at_call 14; (with_reducible refine (HSM.out _ _ _ _ _ _ _ _ _ _ _ _ _ E5 E6).mono ?_); rintro e wa ⟨rfl, hb⟩; replace t1 := t1.below hb t1.lt; replace t2 := t2.below hb t2.lt; replace t3 := t3.below hb t3.lt; replace bel := bel.trans (hb.mono bel.size); replace X := X.below hb; replace Y := Y.below hb; replace Z := Z.below hb; replace E5 := E5.below hb; replace E6 := E6.below hb; clear hb))
  clear E5 E6
  go_upto_region 10 with (fail)
  have t2_0 := t2.c0
  have t2_1 := t2.c1
  have t2_2 := t2.c2
  have t2_3 := t2.c3
  have t3_0 := t3.c0
  have t3_1 := t3.c1
  have t3_2 := t3.c2
  have t3_3 := t3.c3
  go_wp2_with fail
  refine (HC23.out _ Y Z).mono ?_
  rintro e w7 ⟨rfl, hb⟩
  clear t2_0 t2_1 t2_2 t2_3 t3_0 t3_1 t3_2 t3_3
  replace t1 := t1.below hb t1.lt
  replace t2 := t2.below hb t2.lt
  replace t3 := t3.below hb t3.lt
  replace bel := bel.trans (hb.mono bel.size)
  replace X := X.below hb
  replace Y := Y.below hb
  replace Z := Z.below hb
  clear hb
  go_wp2_with fail
  go_ret
  exact ⟨rfl, bel⟩

set_option maxRecDepth 100000 in
set_option maxHeartbeats 3000000 in
theorem order_zb (p1 : Bool) (A1 : Option Addr) (l1 : List Nat) (c1 : Nat) (q1 : Bool) (B1 : Option Addr) (m1 : List Nat) (d1 : Nat) (p2 : Bool) (A2 : Option Addr) (l2 : List Nat) (c2 : Nat) (q2 : Bool) (B2 : Option Addr) (m2 : List Nat) (d2 : Nat) (p3 : Bool) (A3 : Option Addr) (l3 : List Nat) (c3 : Nat) (q3 : Bool) (B3 : Option Addr) (m3 : List Nat) (d3 : Nat) {z1 z2 z3 : Rat} (w : World) (h1 : Rv w p1 A1 c1 l1 q1 B1 d1 m1 z1 4) (h2 : Rv w p2 A2 c2 l2 q2 B2 d2 m2 z2 4) (h3 : Rv w p3 A3 c3 l3 q3 B3 d3 m3 z3 4) (ht : Tabs w) (mx : Mx w) (f1 : decide (l1.length ≤ 4 ∧ m1.length ≤ 4) = true) (f2 : decide (l2.length ≤ 4 ∧ m2.length ≤ 4) = true) (f3 : decide (l3.length ≤ 4 ∧ m3.length ≤ 4) = true) (hc : (z1 - z2).num.sign = 0) (hd : (z2 - z3).num.sign ≤ 0) :
    Calls Tryz.prog 8 #[ratV p1 A1 l1.length c1 q1 B1 m1.length d1, ratV p2 A2 l2.length c2 q2 B2 m2.length d2, ratV p3 A3 l3.length c3 q3 B3 m3.length d3] w fun e w' => e = .returned (.bool true) ∧ Below w.heap.size w w' := by
  have HC12 := Lib.hid (fun (W : World) (h : Rv W p1 A1 c1 l1 q1 B1 d1 m1 z1 4) (h' : Rv W p2 A2 c2 l2 q2 B2 d2 m2 z2 4) => (by have h := rcmp h h' (by decide) (by decide) (by decide) (by decide); rw [hc] at h; exact h : Calls Tryz.prog 33 #[.agg #[.bool p1, .slice A1 l1.length c1, .bool q1, .slice B1 m1.length d1], .agg #[.bool p2, .slice A2 l2.length c2, .bool q2, .slice B2 m2.length d2]] W fun e w' => e = .returned (.int .i64 (0)) ∧ Below W.heap.size W w'))
  have HR12 := Lib.hid (fun (W : World) (h : Rv W p1 A1 c1 l1 q1 B1 d1 m1 z1 4) (h' : Rv W p2 A2 c2 l2 q2 B2 d2 m2 z2 4) => (by have h := rrcmp h h' (by decide) (by decide) (by decide) (by decide); rw [hc] at h; exact h : Calls Tryz.prog 34 #[.agg #[.bool p1, .slice A1 l1.length c1, .bool q1, .slice B1 m1.length d1], .agg #[.bool p2, .slice A2 l2.length c2, .bool q2, .slice B2 m2.length d2]] W fun e w' => e = .returned (.int .i64 (0)) ∧ Below W.heap.size W w'))
  have hc2 : (z2 - z1).num.sign = (0) := (rq_sub_neg z1 z2).trans ((congrArg Neg.neg hc).trans (by decide))
  have HC21 := Lib.hid (fun (W : World) (h : Rv W p2 A2 c2 l2 q2 B2 d2 m2 z2 4) (h' : Rv W p1 A1 c1 l1 q1 B1 d1 m1 z1 4) => (by have h := rcmp h h' (by decide) (by decide) (by decide) (by decide); rw [hc2] at h; exact h : Calls Tryz.prog 33 #[.agg #[.bool p2, .slice A2 l2.length c2, .bool q2, .slice B2 m2.length d2], .agg #[.bool p1, .slice A1 l1.length c1, .bool q1, .slice B1 m1.length d1]] W fun e w' => e = .returned (.int .i64 (0)) ∧ Below W.heap.size W w'))
  have HSG := Lib.hid (fun (W : World) (A : Option Addr) (c : Nat) (l : List Nat) (Bb : Option Addr) (d : Nat) (m : List Nat) (h : Cr W A c l Bb d m (z1 - z2) 9) => (by have h := rsgn h.rv (by decide); rw [hc] at h; exact h : Calls Tryz.prog 31 #[.agg #[.bool (decide ((z1 - z2).num < 0)), .slice A l.length c, .bool false, .slice Bb m.length d]] W fun e w' => e = .returned (.int .i64 (0)) ∧ Below W.heap.size W w'))
  have HCS := Lib.hid (fun (W : World) (A : Option Addr) (c : Nat) (l : List Nat) (Bb : Option Addr) (d : Nat) (m : List Nat) (A' : Option Addr) (c' : Nat) (l' : List Nat) (B' : Option Addr) (d' : Nat) (m' : List Nat) (h : Cr W A c l Bb d m (z1 + z3) 9) (h' : Cr W A' c' l' B' d' m' (z2 + z3) 9) => (by have h := rcmp h.rv h'.rv (by decide) (by decide) (by decide) (by decide); rw [rq_add_sub, hc] at h; exact h : Calls Tryz.prog 33 #[.agg #[.bool (decide ((z1 + z3).num < 0)), .slice A l.length c, .bool false, .slice Bb m.length d], .agg #[.bool (decide ((z2 + z3).num < 0)), .slice A' l'.length c', .bool false, .slice B' m'.length d']] W fun e w' => e = .returned (.int .i64 (0)) ∧ Below W.heap.size W w'))
  have HSM := Lib.hid (fun (W : World) (A : Option Addr) (c : Nat) (l : List Nat) (Bb : Option Addr) (d : Nat) (m : List Nat) (A' : Option Addr) (c' : Nat) (l' : List Nat) (B' : Option Addr) (d' : Nat) (m' : List Nat) (h : Cr W A c l Bb d m z1 4) (h' : Cr W A' c' l' B' d' m' z2 4) => (by have h := grsame h h' (by decide) (by decide); rw [decide_eq_true (show z1 = z2 from rq_eq_of_sub.1 hc)] at h; exact h : Calls Tryz.prog 14 #[.agg #[.bool (decide (z1.num < 0)), .slice A l.length c, .bool false, .slice Bb m.length d], .agg #[.bool (decide (z2.num < 0)), .slice A' l'.length c', .bool false, .slice B' m'.length d']] W fun e w' => e = .returned (.bool true) ∧ Below W.heap.size W w'))
  obtain ⟨u, hu⟩ : ∃ u, u = (z2 - z3).num.sign := ⟨_, rfl⟩
  have HC23 := Lib.hid (fun (W : World) (h : Rv W p2 A2 c2 l2 q2 B2 d2 m2 z2 4) (h' : Rv W p3 A3 c3 l3 q3 B3 d3 m3 z3 4) => (by have h := rcmp h h' (by decide) (by decide) (by decide) (by decide); rw [← hu] at h; exact h : Calls Tryz.prog 33 #[.agg #[.bool p2, .slice A2 l2.length c2, .bool q2, .slice B2 m2.length d2], .agg #[.bool p3, .slice A3 l3.length c3, .bool q3, .slice B3 m3.length d3]] W fun e w' => e = .returned (.int .i64 u) ∧ Below W.heap.size W w'))
  have u1 : ¬ 0 < u := by rw [hu]; omega
  have u2 : decide (0 < u) = false := decide_eq_false u1
  obtain ⟨v, hv⟩ : ∃ v, v = (z1 - z3).num.sign := ⟨_, rfl⟩
  have HC13 := Lib.hid (fun (W : World) (h : Rv W p1 A1 c1 l1 q1 B1 d1 m1 z1 4) (h' : Rv W p3 A3 c3 l3 q3 B3 d3 m3 z3 4) => (by have h := rcmp h h' (by decide) (by decide) (by decide) (by decide); rw [← hv] at h; exact h : Calls Tryz.prog 33 #[.agg #[.bool p1, .slice A1 l1.length c1, .bool q1, .slice B1 m1.length d1], .agg #[.bool p3, .slice A3 l3.length c3, .bool q3, .slice B3 m3.length d3]] W fun e w' => e = .returned (.int .i64 v) ∧ Below W.heap.size W w'))
  have v1 : v ≤ 0 := by
    rw [hv]
    have a1 := rq_sub_nonpos.1 (show (z1 - z2).num.sign ≤ 0 by omega)
    have a2 := rq_sub_nonpos.1 hd
    exact rq_sub_nonpos.2 (Rat.le_trans a1 a2)
  have v2 : decide (v ≤ 0) = true := decide_eq_true v1
  clear hc hc2 hu hd hv
  have HF1 := Lib.hid (fun (W : World) => gfew p1 A1 c1 l1.length q1 B1 d1 m1.length true (Lib.hid f1) W)
  have HF2 := Lib.hid (fun (W : World) => gfew p2 A2 c2 l2.length q2 B2 d2 m2.length true (Lib.hid f2) W)
  have HF3 := Lib.hid (fun (W : World) => gfew p3 A3 c3 l3.length q3 B3 d3 m3.length true (Lib.hid f3) W)
  clear f1 f2 f3
  unfold ratV
  go_enter Tryz.func8, Tryz.ntmps8
  go_wp2_with fail
  have t1 : Four (((w.alloc (.cells #[.bool p1, .slice A1 l1.length c1, .bool q1, .slice B1 m1.length d1] 26)).alloc (.cells #[.bool p2, .slice A2 l2.length c2, .bool q2, .slice B2 m2.length d2] 26)).alloc (.cells #[.bool p3, .slice A3 l3.length c3, .bool q3, .slice B3 m3.length d3] 26)) w.heap.size (.bool p1) (.slice A1 l1.length c1) (.bool q1) (.slice B1 m1.length d1) := ((Four.new_ w (.bool p1) (.slice A1 l1.length c1) (.bool q1) (.slice B1 m1.length d1) 26).alloc _).alloc _
  have t2 : Four (((w.alloc (.cells #[.bool p1, .slice A1 l1.length c1, .bool q1, .slice B1 m1.length d1] 26)).alloc (.cells #[.bool p2, .slice A2 l2.length c2, .bool q2, .slice B2 m2.length d2] 26)).alloc (.cells #[.bool p3, .slice A3 l3.length c3, .bool q3, .slice B3 m3.length d3] 26)) (w.heap.size + 1) (.bool p2) (.slice A2 l2.length c2) (.bool q2) (.slice B2 m2.length d2) := by simpa only [World.size_alloc, Nat.add_assoc, Nat.reduceAdd] using (Four.new_ (w.alloc (.cells #[.bool p1, .slice A1 l1.length c1, .bool q1, .slice B1 m1.length d1] 26)) (.bool p2) (.slice A2 l2.length c2) (.bool q2) (.slice B2 m2.length d2) 26).alloc _
  have t3 : Four (((w.alloc (.cells #[.bool p1, .slice A1 l1.length c1, .bool q1, .slice B1 m1.length d1] 26)).alloc (.cells #[.bool p2, .slice A2 l2.length c2, .bool q2, .slice B2 m2.length d2] 26)).alloc (.cells #[.bool p3, .slice A3 l3.length c3, .bool q3, .slice B3 m3.length d3] 26)) (w.heap.size + 2) (.bool p3) (.slice A3 l3.length c3) (.bool q3) (.slice B3 m3.length d3) := by simpa only [World.size_alloc, Nat.add_assoc, Nat.reduceAdd] using Four.new_ ((w.alloc (.cells #[.bool p1, .slice A1 l1.length c1, .bool q1, .slice B1 m1.length d1] 26)).alloc (.cells #[.bool p2, .slice A2 l2.length c2, .bool q2, .slice B2 m2.length d2] 26)) (.bool p3) (.slice A3 l3.length c3) (.bool q3) (.slice B3 m3.length d3) 26
  have bel : Below w.heap.size w (((w.alloc (.cells #[.bool p1, .slice A1 l1.length c1, .bool q1, .slice B1 m1.length d1] 26)).alloc (.cells #[.bool p2, .slice A2 l2.length c2, .bool q2, .slice B2 m2.length d2] 26)).alloc (.cells #[.bool p3, .slice A3 l3.length c3, .bool q3, .slice B3 m3.length d3] 26)) := (((Below.refl _ _).alloc (Nat.le_refl _) _).alloc (by simp only [World.size_alloc]; omega) _).alloc (by simp only [World.size_alloc]; omega) _
  generalize (((w.alloc (.cells #[.bool p1, .slice A1 l1.length c1, .bool q1, .slice B1 m1.length d1] 26)).alloc (.cells #[.bool p2, .slice A2 l2.length c2, .bool q2, .slice B2 m2.length d2] 26)).alloc (.cells #[.bool p3, .slice A3 l3.length c3, .bool q3, .slice B3 m3.length d3] 26)) = wx at t1 t2 t3 bel ⊢
  refine (rknown_ok _ (ht.below bel) (mx.below_ bel)).mono ?_
  rintro e w2 ⟨rfl, hb⟩
  replace t1 := t1.below hb t1.lt
  replace t2 := t2.below hb t2.lt
  replace t3 := t3.below hb t3.lt
  replace bel := bel.trans (hb.mono bel.size)
  clear hb
  have t1_0 := t1.c0
  have t1_1 := t1.c1
  have t1_2 := t1.c2
  have t1_3 := t1.c3
  go_wp2_with fail
  refine (HF1.out _).mono ?_
  rintro e w3 ⟨rfl, hb⟩
  clear t1_0 t1_1 t1_2 t1_3
  replace t1 := t1.below hb t1.lt
  replace t2 := t2.below hb t2.lt
  replace t3 := t3.below hb t3.lt
  replace bel := bel.trans (hb.mono bel.size)
  clear hb
  have t2_0 := t2.c0
  have t2_1 := t2.c1
  have t2_2 := t2.c2
  have t2_3 := t2.c3
  go_wp2_with fail
  refine (HF2.out _).mono ?_
  rintro e w4 ⟨rfl, hb⟩
  clear t2_0 t2_1 t2_2 t2_3
  replace t1 := t1.below hb t1.lt
  replace t2 := t2.below hb t2.lt
  replace t3 := t3.below hb t3.lt
  replace bel := bel.trans (hb.mono bel.size)
  clear hb
  have t3_0 := t3.c0
  have t3_1 := t3.c1
  have t3_2 := t3.c2
  have t3_3 := t3.c3
  go_wp2_with fail
  refine (HF3.out _).mono ?_
  rintro e w5 ⟨rfl, hb⟩
  clear t3_0 t3_1 t3_2 t3_3
  replace t1 := t1.below hb t1.lt
  replace t2 := t2.below hb t2.lt
  replace t3 := t3.below hb t3.lt
  replace bel := bel.trans (hb.mono bel.size)
  clear hb
  clear HF1 HF2 HF3
  have X := h1.below bel
  have Y := h2.below bel
  have Z := h3.below bel
  have t1_0 := t1.c0
  have t1_1 := t1.c1
  have t1_2 := t1.c2
  have t1_3 := t1.c3
  have t2_0 := t2.c0
  have t2_1 := t2.c1
  have t2_2 := t2.c2
  have t2_3 := t2.c3
  go_wp2_with fail
  refine (HC12.out _ X Y).mono ?_
  rintro e w6 ⟨rfl, hb⟩
  clear t1_0 t1_1 t1_2 t1_3 t2_0 t2_1 t2_2 t2_3
  replace t1 := t1.below hb t1.lt
  replace t2 := t2.below hb t2.lt
  replace t3 := t3.below hb t3.lt
  replace bel := bel.trans (hb.mono bel.size)
  replace X := X.below hb
  replace Y := Y.below hb
  replace Z := Z.below hb
  clear hb
  go_upto_region 6 with (fail)
  replace t1 := t1.drew
  replace t2 := t2.drew
  replace t3 := t3.drew
  replace bel := bDrew1 bel
  replace X := X.drew
  replace Y := Y.drew
  replace Z := Z.drew
  have hw : IntKind.i64.wrap (0) = (0) := by decide
  go_region_held3 (fun w' => w'.cell? ⟨w.heap.size, 0, none⟩ = some (.bool p1) ∧ w'.cell? ⟨w.heap.size, 1, none⟩ = some (.slice A1 l1.length c1) ∧ w'.cell? ⟨w.heap.size, 2, none⟩ = some (.bool q1) ∧ w'.cell? ⟨w.heap.size, 3, none⟩ = some (.slice B1 m1.length d1) ∧ w'.cell? ⟨w.heap.size + 1, 0, none⟩ = some (.bool p2) ∧ w'.cell? ⟨w.heap.size + 1, 1, none⟩ = some (.slice A2 l2.length c2) ∧ w'.cell? ⟨w.heap.size + 1, 2, none⟩ = some (.bool q2) ∧ w'.cell? ⟨w.heap.size + 1, 3, none⟩ = some (.slice B2 m2.length d2) ∧ w'.cell? ⟨w.heap.size + 2, 0, none⟩ = some (.bool p3) ∧ w'.cell? ⟨w.heap.size + 2, 1, none⟩ = some (.slice A3 l3.length c3) ∧ w'.cell? ⟨w.heap.size + 2, 2, none⟩ = some (.bool q3) ∧ w'.cell? ⟨w.heap.size + 2, 3, none⟩ = some (.slice B3 m3.length d3))
    (with_reducible exact ⟨t1.c0, t1.c1, t1.c2, t1.c3, t2.c0, t2.c1, t2.c2, t2.c3, t3.c0, t3.c1, t3.c2, t3.c3⟩)
    (first
      | (go_at_call 34; (with_reducible refine (HR12.out _ X Y).mono ?_); rintro e wa ⟨rfl, hb⟩; replace t1 := t1.below hb t1.lt; replace t2 := t2.below hb t2.lt; replace t3 := t3.below hb t3.lt; replace bel := bel.trans (hb.mono bel.size); replace X := X.below hb; replace Y := Y.below hb; replace Z := Z.below hb; clear hb)
      | (go_at_call 25; (with_reducible refine (rsub X Y (by decide) (by decide) (by decide) (by decide)).mono ?_); rintro e wa ⟨A5, c5, l5, B5, d5, m5, rfl, E5, hb⟩; replace t1 := t1.below hb t1.lt; replace t2 := t2.below hb t2.lt; replace t3 := t3.below hb t3.lt; replace bel := bel.trans (hb.mono bel.size); replace X := X.below hb; replace Y := Y.below hb; replace Z := Z.below hb; clear hb)
      | (go_at_call 31; (with_reducible refine (HSG.out _ _ _ _ _ _ _ E5).mono ?_); rintro e wa ⟨rfl, hb⟩; replace t1 := t1.below hb t1.lt; replace t2 := t2.below hb t2.lt; replace t3 := t3.below hb t3.lt; replace bel := bel.trans (hb.mono bel.size); replace X := X.below hb; replace Y := Y.below hb; replace Z := Z.below hb; replace E5 := E5.below hb; clear hb)
      | (go_at_call 33; (with_reducible refine (HC21.out _ Y X).mono ?_); rintro e wa ⟨rfl, hb⟩; replace t1 := t1.below hb t1.lt; replace t2 := t2.below hb t2.lt; replace t3 := t3.below hb t3.lt; replace bel := bel.trans (hb.mono bel.size); replace X := X.below hb; replace Y := Y.below hb; replace Z := Z.below hb; replace E5 := E5.below hb; clear hb)
      | (go_at_call 23; (with_reducible refine (radd X Z (by decide) (by decide) (by decide) (by decide)).mono ?_); rintro e wa ⟨A6, c6, l6, B6, d6, m6, rfl, E6, hb⟩; replace t1 := t1.below hb t1.lt; replace t2 := t2.below hb t2.lt; replace t3 := t3.below hb t3.lt; replace bel := bel.trans (hb.mono bel.size); replace X := X.below hb; replace Y := Y.below hb; replace Z := Z.below hb; replace E5 := E5.below hb; clear hb)
      | (go_at_call 23; (with_reducible refine (radd Y Z (by decide) (by decide) (by decide) (by decide)).mono ?_); rintro e wa ⟨A7, c7, l7, B7, d7, m7, rfl, E7, hb⟩; replace t1 := t1.below hb t1.lt; replace t2 := t2.below hb t2.lt; replace t3 := t3.below hb t3.lt; replace bel := bel.trans (hb.mono bel.size); replace X := X.below hb; replace Y := Y.below hb; replace Z := Z.below hb; replace E5 := E5.below hb; replace E6 := E6.below hb; clear hb)
      | (go_at_call 33; (with_reducible refine (HCS.out _ _ _ _ _ _ _ _ _ _ _ _ _ E6 E7).mono ?_); rintro e wa ⟨rfl, hb⟩; replace t1 := t1.below hb t1.lt; replace t2 := t2.below hb t2.lt; replace t3 := t3.below hb t3.lt; replace bel := bel.trans (hb.mono bel.size); replace X := X.below hb; replace Y := Y.below hb; replace Z := Z.below hb; replace E5 := E5.below hb; replace E6 := E6.below hb; replace E7 := E7.below hb; clear hb))
  clear E5 E6 E7
  go_upto_region 8 with (fail)
  replace t1 := t1.drew
  replace t2 := t2.drew
  replace t3 := t3.drew
  replace bel := bDrew1 bel
  replace X := X.drew
  replace Y := Y.drew
  replace Z := Z.drew
  go_region_held3 (fun w' => w'.cell? ⟨w.heap.size, 0, none⟩ = some (.bool p1) ∧ w'.cell? ⟨w.heap.size, 1, none⟩ = some (.slice A1 l1.length c1) ∧ w'.cell? ⟨w.heap.size, 2, none⟩ = some (.bool q1) ∧ w'.cell? ⟨w.heap.size, 3, none⟩ = some (.slice B1 m1.length d1) ∧ w'.cell? ⟨w.heap.size + 1, 0, none⟩ = some (.bool p2) ∧ w'.cell? ⟨w.heap.size + 1, 1, none⟩ = some (.slice A2 l2.length c2) ∧ w'.cell? ⟨w.heap.size + 1, 2, none⟩ = some (.bool q2) ∧ w'.cell? ⟨w.heap.size + 1, 3, none⟩ = some (.slice B2 m2.length d2))
    (with_reducible exact ⟨t1.c0, t1.c1, t1.c2, t1.c3, t2.c0, t2.c1, t2.c2, t2.c3⟩)
    (first
      | (go_at_call 13; (with_reducible refine (rcln X (by decide) (by decide)).mono ?_); rintro e wa ⟨A5, c5, l5, B5, d5, m5, rfl, E5, hb⟩; replace t1 := t1.below hb t1.lt; replace t2 := t2.below hb t2.lt; replace t3 := t3.below hb t3.lt; replace bel := bel.trans (hb.mono bel.size); replace X := X.below hb; replace Y := Y.below hb; replace Z := Z.below hb; clear hb)
      | (go_at_call 13; (with_reducible refine (rcln Y (by decide) (by decide)).mono ?_); rintro e wa ⟨A6, c6, l6, B6, d6, m6, rfl, E6, hb⟩; replace t1 := t1.below hb t1.lt; replace t2 := t2.below hb t2.lt; replace t3 := t3.below hb t3.lt; replace bel := bel.trans (hb.mono bel.size); replace X := X.below hb; replace Y := Y.below hb; replace Z := Z.below hb; replace E5 := E5.below hb; clear hb)
      | (go_at_call 14; (with_reducible refine (HSM.out _ _ _ _ _ _ _ _ _ _ _ _ _ E5 E6).mono ?_); rintro e wa ⟨rfl, hb⟩; replace t1 := t1.below hb t1.lt; replace t2 := t2.below hb t2.lt; replace t3 := t3.below hb t3.lt; replace bel := bel.trans (hb.mono bel.size); replace X := X.below hb; replace Y := Y.below hb; replace Z := Z.below hb; replace E5 := E5.below hb; replace E6 := E6.below hb; clear hb))
  clear E5 E6
  go_upto_region 10 with (fail)
  have t2_0 := t2.c0
  have t2_1 := t2.c1
  have t2_2 := t2.c2
  have t2_3 := t2.c3
  have t3_0 := t3.c0
  have t3_1 := t3.c1
  have t3_2 := t3.c2
  have t3_3 := t3.c3
  go_wp2_with fail
  refine (HC23.out _ Y Z).mono ?_
  rintro e w7 ⟨rfl, hb⟩
  clear t2_0 t2_1 t2_2 t2_3 t3_0 t3_1 t3_2 t3_3
  replace t1 := t1.below hb t1.lt
  replace t2 := t2.below hb t2.lt
  replace t3 := t3.below hb t3.lt
  replace bel := bel.trans (hb.mono bel.size)
  replace X := X.below hb
  replace Y := Y.below hb
  replace Z := Z.below hb
  clear hb
  have t1_0 := t1.c0
  have t1_1 := t1.c1
  have t1_2 := t1.c2
  have t1_3 := t1.c3
  have t3_0 := t3.c0
  have t3_1 := t3.c1
  have t3_2 := t3.c2
  have t3_3 := t3.c3
  go_wp2_with fail
  refine (HC13.out _ X Z).mono ?_
  rintro e w8 ⟨rfl, hb⟩
  clear t1_0 t1_1 t1_2 t1_3 t3_0 t3_1 t3_2 t3_3
  replace t1 := t1.below hb t1.lt
  replace t2 := t2.below hb t2.lt
  replace t3 := t3.below hb t3.lt
  replace bel := bel.trans (hb.mono bel.size)
  replace X := X.below hb
  replace Y := Y.below hb
  replace Z := Z.below hb
  clear hb
  go_wp2_with fail
  go_ret
  exact ⟨rfl, bel⟩

end Go.Proofs.YtpfaddgcfacgdaaGreatDoor
