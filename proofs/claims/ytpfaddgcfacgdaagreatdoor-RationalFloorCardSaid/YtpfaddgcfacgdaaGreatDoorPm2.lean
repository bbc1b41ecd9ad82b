/- My texts, packed: N5, N6, A1, A2, LawArithmetic, N7. -/
import Derived.Test.YtpfaddgcfacgdaaGreatDoorPm1
import Derived.Test.YtpfaddgcfacgdaaGreatDoorPk14
import Derived.Test.YtpfaddgcfacgdaaGreatDoorPl1
/- Walks of package rational: Sub of the reference. -/
namespace Go.Proofs.YtpfaddgcfacgdaaGreatDoor
open Go.RowKit
set_option linter.unusedVariables false

set_option maxRecDepth 100000 in
set_option maxHeartbeats 2000000 in
theorem rrsub {p1 : Bool} {A1 : Option Addr} {c1 : Nat} {l1 : List Nat} {q1 : Bool} {B1 : Option Addr} {d1 : Nat} {m1 : List Nat} {z1 : Rat} {p2 : Bool} {A2 : Option Addr} {c2 : Nat} {l2 : List Nat} {q2 : Bool} {B2 : Option Addr} {d2 : Nat} {m2 : List Nat} {z2 : Rat} {n k : Nat} {w : World} (h1 : Rv w p1 A1 c1 l1 q1 B1 d1 m1 z1 n) (h2 : Rv w p2 A2 c2 l2 q2 B2 d2 m2 z2 k) (hn : n ≤ 40) (hn1 : 1 ≤ n) (hk : k ≤ 40) (hk1 : 1 ≤ k) :
    Calls Tryz.prog 26 #[ratV p1 A1 l1.length c1 q1 B1 m1.length d1, ratV p2 A2 l2.length c2 q2 B2 m2.length d2] w (GR (z1 - z2) (n + k + 1) w) := by
  obtain ⟨z, hz⟩ : ∃ z, z = z1 - z2 := ⟨_, rfl⟩
  rw [← hz]
  have HNG := Lib.hid (fun (W : World) (h : Rv W p2 A2 c2 l2 q2 B2 d2 m2 z2 k) => (rrneg h (by omega) hk1 : Calls Tryz.prog 30 #[.agg #[.bool p2, .slice A2 l2.length c2, .bool q2, .slice B2 m2.length d2]] W (GR (-z2) k W)))
  have HAD := Lib.hid (fun (W : World) (A : Option Addr) (c : Nat) (l : List Nat) (Bb : Option Addr) (d : Nat) (m : List Nat) (h : Rv W p1 A1 c1 l1 q1 B1 d1 m1 z1 n) (h' : Cr W A c l Bb d m (-z2) k) => (by have h := rradd h h'.rv hn hn1 hk hk1; rw [← Rat.sub_eq_add_neg, ← hz] at h; exact h : Calls Tryz.prog 24 #[.agg #[.bool p1, .slice A1 l1.length c1, .bool q1, .slice B1 m1.length d1], .agg #[.bool (decide ((-z2).num < 0)), .slice A l.length c, .bool false, .slice Bb m.length d]] W (GR z (n + k + 1) W)))
  obtain ⟨zn, hzn⟩ : ∃ y, y = -z2 := ⟨_, rfl⟩
  rw [← hzn] at HNG HAD
  clear hzn hz hn hn1 hk hk1
  unfold ratV
  go_enter Tryz.func26, Tryz.ntmps26
  go_wp2_with fail
  have t1 : Four (((w.alloc (.cells #[.bool p1, .slice A1 l1.length c1, .bool q1, .slice B1 m1.length d1] 26)).alloc (.cells #[.bool p2, .slice A2 l2.length c2, .bool q2, .slice B2 m2.length d2] 26)).alloc (.cells #[.bool false, .slice none 0 0, .bool false, .slice none 0 0] 26)) w.heap.size (.bool p1) (.slice A1 l1.length c1) (.bool q1) (.slice B1 m1.length d1) := ((Four.new_ w (.bool p1) (.slice A1 l1.length c1) (.bool q1) (.slice B1 m1.length d1) 26).alloc _).alloc _
  have t2 : Four (((w.alloc (.cells #[.bool p1, .slice A1 l1.length c1, .bool q1, .slice B1 m1.length d1] 26)).alloc (.cells #[.bool p2, .slice A2 l2.length c2, .bool q2, .slice B2 m2.length d2] 26)).alloc (.cells #[.bool false, .slice none 0 0, .bool false, .slice none 0 0] 26)) (w.heap.size + 1) (.bool p2) (.slice A2 l2.length c2) (.bool q2) (.slice B2 m2.length d2) := by simpa only [World.size_alloc, Nat.add_assoc, Nat.reduceAdd] using (Four.new_ (w.alloc (.cells #[.bool p1, .slice A1 l1.length c1, .bool q1, .slice B1 m1.length d1] 26)) (.bool p2) (.slice A2 l2.length c2) (.bool q2) (.slice B2 m2.length d2) 26).alloc _
  have t3 : Four (((w.alloc (.cells #[.bool p1, .slice A1 l1.length c1, .bool q1, .slice B1 m1.length d1] 26)).alloc (.cells #[.bool p2, .slice A2 l2.length c2, .bool q2, .slice B2 m2.length d2] 26)).alloc (.cells #[.bool false, .slice none 0 0, .bool false, .slice none 0 0] 26)) (w.heap.size + 2) (.bool false) (.slice none 0 0) (.bool false) (.slice none 0 0) := by simpa only [World.size_alloc, Nat.add_assoc, Nat.reduceAdd] using Four.new_ ((w.alloc (.cells #[.bool p1, .slice A1 l1.length c1, .bool q1, .slice B1 m1.length d1] 26)).alloc (.cells #[.bool p2, .slice A2 l2.length c2, .bool q2, .slice B2 m2.length d2] 26)) (.bool false) (.slice none 0 0) (.bool false) (.slice none 0 0) 26
  have bel : Below w.heap.size w (((w.alloc (.cells #[.bool p1, .slice A1 l1.length c1, .bool q1, .slice B1 m1.length d1] 26)).alloc (.cells #[.bool p2, .slice A2 l2.length c2, .bool q2, .slice B2 m2.length d2] 26)).alloc (.cells #[.bool false, .slice none 0 0, .bool false, .slice none 0 0] 26)) := (((Below.refl _ _).alloc (Nat.le_refl _) _).alloc (by simp only [World.size_alloc]; omega) _).alloc (by simp only [World.size_alloc]; omega) _
  generalize (((w.alloc (.cells #[.bool p1, .slice A1 l1.length c1, .bool q1, .slice B1 m1.length d1] 26)).alloc (.cells #[.bool p2, .slice A2 l2.length c2, .bool q2, .slice B2 m2.length d2] 26)).alloc (.cells #[.bool false, .slice none 0 0, .bool false, .slice none 0 0] 26)) = wx at t1 t2 t3 bel ⊢
  have X := h1.below bel
  have Y := h2.below bel
  replace t1 := t1.drew
  replace t2 := t2.drew
  replace t3 := t3.drew
  replace bel := bDrew1 bel
  replace X := X.drew
  replace Y := Y.drew
  go_region_held3 (fun w' => w'.cell? ⟨w.heap.size, 0, none⟩ = some (.bool p1) ∧ w'.cell? ⟨w.heap.size, 1, none⟩ = some (.slice A1 l1.length c1) ∧ w'.cell? ⟨w.heap.size, 2, none⟩ = some (.bool q1) ∧ w'.cell? ⟨w.heap.size, 3, none⟩ = some (.slice B1 m1.length d1) ∧ w'.cell? ⟨w.heap.size + 1, 0, none⟩ = some (.bool p2) ∧ w'.cell? ⟨w.heap.size + 1, 1, none⟩ = some (.slice A2 l2.length c2) ∧ w'.cell? ⟨w.heap.size + 1, 2, none⟩ = some (.bool q2) ∧ w'.cell? ⟨w.heap.size + 1, 3, none⟩ = some (.slice B2 m2.length d2))
    (first | with_reducible exact ⟨t1.c0, t1.c1, t1.c2, t1.c3, t2.c0, t2.c1, t2.c2, t2.c3⟩ | exact ⟨K0.out.c0, K0.out.c1, K0.out.c2, K0.out.c3, K1.out.c0, K1.out.c1, K1.out.c2, K1.out.c3⟩)
    (first
      | (go_at_call 30; (with_reducible refine (HNG.out _ Y).mono ?_); rintro e wa ⟨A7, c7, l7, B7, d7, m7, rfl, E7, hb⟩; replace t1 := t1.below hb t1.lt; replace t2 := t2.below hb t2.lt; replace t3 := t3.below hb t3.lt; replace bel := bel.trans (hb.mono bel.size); replace X := X.below hb; replace Y := Y.below hb; clear hb)
      | (go_at_call 24; (with_reducible refine (HAD.out _ _ _ _ _ _ _ X E7).mono ?_); rintro e wa ⟨A9, c9, l9, B9, d9, m9, rfl, CC, hb⟩; replace t1 := t1.below hb t1.lt; replace t2 := t2.below hb t2.lt; replace t3 := t3.below hb t3.lt; replace bel := bel.trans (hb.mono bel.size); replace X := X.below hb; replace Y := Y.below hb; clear hb
         have e0 := t3.c0
         have f0 := t3.fr 0
         have e1 := t3.c1
         have f1 := t3.fr 1
         have e2 := t3.c2
         have f2 := t3.fr 2
         have e3 := t3.c3
         have f3 := t3.fr 3
         have K0 := Lib.hid (t1.far4 (g := w.heap.size + 2) (by omega) (.bool (decide (z.num < 0))) (.slice A9 l9.length c9) (.bool false) (.slice B9 m9.length d9))
         have K1 := Lib.hid (t2.far4 (g := w.heap.size + 2) (by omega) (.bool (decide (z.num < 0))) (.slice A9 l9.length c9) (.bool false) (.slice B9 m9.length d9))
         have R := Lib.hid (t3.put (.bool (decide (z.num < 0))) (.slice A9 l9.length c9) (.bool false) (.slice B9 m9.length d9))
         have CR := Lib.hid (CC.put4 t3 (.bool (decide (z.num < 0))) (.slice A9 l9.length c9) (.bool false) (.slice B9 m9.length d9))
         have BL := Lib.hid (below_set4 bel (b := w.heap.size + 2) (by omega) (.bool (decide (z.num < 0))) (.slice A9 l9.length c9) (.bool false) (.slice B9 m9.length d9))))
  go_wp2_with fail
  have r0 := R.out.c0
  have r1 := R.out.c1
  have r2 := R.out.c2
  have r3 := R.out.c3
  unfold set4 at r0 r1 r2 r3
  refine bodyPost_ret (v := .agg #[.bool (decide (z.num < 0)), .slice A9 l9.length c9, .bool false, .slice B9 m9.length d9]) (by simp [results, Tryz.results26, go_sem, r0, r1, r2, r3]) rfl ?_
  exact ⟨A9, c9, l9, B9, d9, m9, rfl, CR.out, BL.out⟩
end Go.Proofs.YtpfaddgcfacgdaaGreatDoor
/- Walks of package rational: Sign of the reference. -/
namespace Go.Proofs.YtpfaddgcfacgdaaGreatDoor
open Go.RowKit
set_option linter.unusedVariables false

set_option maxRecDepth 100000 in
set_option maxHeartbeats 1500000 in
theorem rrsgn_z {p1 : Bool} {A1 : Option Addr} {c1 : Nat} {l1 : List Nat} {q1 : Bool} {B1 : Option Addr} {d1 : Nat} {m1 : List Nat} {z1 : Rat} {n : Nat} {w : World} (h1 : Rv w p1 A1 c1 l1 q1 B1 d1 m1 z1 n) (hn : n ≤ 100) (hn1 : 1 ≤ n) (hs : z1.num = 0) :
    Calls Tryz.prog 32 #[ratV p1 A1 l1.length c1 q1 B1 m1.length d1] w fun e w' => e = .returned (.int .i64 (0)) ∧ Below w.heap.size w w' := by
  have HCL := Lib.hid (fun (W : World) (h : Rv W p1 A1 c1 l1 q1 B1 d1 m1 z1 n) => rrcln h hn hn1)
  have HZR := Lib.hid (fun (W : World) (A : Option Addr) (c : Nat) (l : List Nat) (h : Cn W (decide (z1.num < 0)) A c l z1.num n) => (by have h := grz h.iv hn; rwa [decide_eq_true (show z1.num = 0 from hs)] at h : Calls Tryz.prog 56 #[.agg #[.bool (decide (z1.num < 0)), .slice A l.length c]] W fun e w' => e = .returned (.bool true) ∧ Below W.heap.size W w'))
  clear hn hn1 hs
  unfold ratV
  go_enter Tryz.func32, Tryz.ntmps32
  go_wp2_with fail
  have t1 : Four (w.alloc (.cells #[.bool p1, .slice A1 l1.length c1, .bool q1, .slice B1 m1.length d1] 26)) w.heap.size (.bool p1) (.slice A1 l1.length c1) (.bool q1) (.slice B1 m1.length d1) := Four.new_ w (.bool p1) (.slice A1 l1.length c1) (.bool q1) (.slice B1 m1.length d1) 26
  have bel : Below w.heap.size w (w.alloc (.cells #[.bool p1, .slice A1 l1.length c1, .bool q1, .slice B1 m1.length d1] 26)) := (Below.refl _ _).alloc (Nat.le_refl _) _
  generalize (w.alloc (.cells #[.bool p1, .slice A1 l1.length c1, .bool q1, .slice B1 m1.length d1] 26)) = wx at t1 bel ⊢
  have X := h1.below bel
  have t1_0 := t1.c0
  have t1_1 := t1.c1
  have t1_2 := t1.c2
  have t1_3 := t1.c3
  go_wp2_with fail
  refine (HCL.out _ X).mono ?_
  rintro e w2 ⟨A5, c5, l5, B5, d5, m5, rfl, C1, hb⟩
  clear t1_0 t1_1 t1_2 t1_3
  replace t1 := t1.below hb t1.lt
  replace bel := bel.trans (hb.mono bel.size)
  clear hb
  clear X
  go_upto_region 2 with (fail)
  have hg3 : w.heap.size < w2.heap.size := t1.lt
  have t3 : Four (w2.alloc (.cells #[.bool (decide (z1.num < 0)), .slice A5 l5.length c5, .bool false, .slice B5 m5.length d5] 26)) w2.heap.size (.bool (decide (z1.num < 0))) (.slice A5 l5.length c5) (.bool false) (.slice B5 m5.length d5) := Four.new_ w2 (.bool (decide (z1.num < 0))) (.slice A5 l5.length c5) (.bool false) (.slice B5 m5.length d5) 26
  have bn : Below w2.heap.size w2 (w2.alloc (.cells #[.bool (decide (z1.num < 0)), .slice A5 l5.length c5, .bool false, .slice B5 m5.length d5] 26)) := (Below.refl _ _).alloc (Nat.le_refl _) _
  replace t1 := t1.below bn t1.lt
  replace bel := bel.trans (bn.mono bel.size)
  replace C1 := C1.below bn
  clear bn
  generalize (w2.alloc (.cells #[.bool (decide (z1.num < 0)), .slice A5 l5.length c5, .bool false, .slice B5 m5.length d5] 26)) = v1 at t1 bel C1 t3 ⊢
  generalize w2.heap.size = g3 at t1 bel C1 t3 hg3 ⊢
  have t3_0 := t3.c0
  have t3_1 := t3.c1
  have t3_2 := t3.c2
  have t3_3 := t3.c3
  go_wp2_with fail
  refine (HZR.out _ _ _ _ C1.a).mono ?_
  rintro e w3 ⟨rfl, hb⟩
  clear t3_0 t3_1 t3_2 t3_3
  replace t1 := t1.below hb t1.lt
  replace bel := bel.trans (hb.mono bel.size)
  replace C1 := C1.below hb
  replace t3 := t3.below hb t3.lt
  clear hb
  go_wp2_with fail
  go_ret
  exact ⟨rfl, bel⟩

set_option maxRecDepth 100000 in
set_option maxHeartbeats 1500000 in
theorem rrsgn_p {p1 : Bool} {A1 : Option Addr} {c1 : Nat} {l1 : List Nat} {q1 : Bool} {B1 : Option Addr} {d1 : Nat} {m1 : List Nat} {z1 : Rat} {n : Nat} {w : World} (h1 : Rv w p1 A1 c1 l1 q1 B1 d1 m1 z1 n) (hn : n ≤ 100) (hn1 : 1 ≤ n) (hs : z1.num > 0) :
    Calls Tryz.prog 32 #[ratV p1 A1 l1.length c1 q1 B1 m1.length d1] w fun e w' => e = .returned (.int .i64 (1)) ∧ Below w.heap.size w w' := by
  have HCL := Lib.hid (fun (W : World) (h : Rv W p1 A1 c1 l1 q1 B1 d1 m1 z1 n) => rrcln h hn hn1)
  have HZR := Lib.hid (fun (W : World) (A : Option Addr) (c : Nat) (l : List Nat) (h : Cn W (decide (z1.num < 0)) A c l z1.num n) => (by have h := grz h.iv hn; rwa [decide_eq_false (show ¬ z1.num = 0 by omega)] at h : Calls Tryz.prog 56 #[.agg #[.bool (decide (z1.num < 0)), .slice A l.length c]] W fun e w' => e = .returned (.bool false) ∧ Below W.heap.size W w'))
  have GS : Hid (decide (z1.num < 0) = false) := Lib.hid (decide_eq_false (by omega))
  clear hn hn1 hs
  unfold ratV
  go_enter Tryz.func32, Tryz.ntmps32
  go_wp2_with fail
  have t1 : Four (w.alloc (.cells #[.bool p1, .slice A1 l1.length c1, .bool q1, .slice B1 m1.length d1] 26)) w.heap.size (.bool p1) (.slice A1 l1.length c1) (.bool q1) (.slice B1 m1.length d1) := Four.new_ w (.bool p1) (.slice A1 l1.length c1) (.bool q1) (.slice B1 m1.length d1) 26
  have bel : Below w.heap.size w (w.alloc (.cells #[.bool p1, .slice A1 l1.length c1, .bool q1, .slice B1 m1.length d1] 26)) := (Below.refl _ _).alloc (Nat.le_refl _) _
  generalize (w.alloc (.cells #[.bool p1, .slice A1 l1.length c1, .bool q1, .slice B1 m1.length d1] 26)) = wx at t1 bel ⊢
  have X := h1.below bel
  have t1_0 := t1.c0
  have t1_1 := t1.c1
  have t1_2 := t1.c2
  have t1_3 := t1.c3
  go_wp2_with fail
  refine (HCL.out _ X).mono ?_
  rintro e w2 ⟨A5, c5, l5, B5, d5, m5, rfl, C1, hb⟩
  clear t1_0 t1_1 t1_2 t1_3
  replace t1 := t1.below hb t1.lt
  replace bel := bel.trans (hb.mono bel.size)
  clear hb
  clear X
  go_upto_region 2 with (fail)
  have hg3 : w.heap.size < w2.heap.size := t1.lt
  have t3 : Four (w2.alloc (.cells #[.bool (decide (z1.num < 0)), .slice A5 l5.length c5, .bool false, .slice B5 m5.length d5] 26)) w2.heap.size (.bool (decide (z1.num < 0))) (.slice A5 l5.length c5) (.bool false) (.slice B5 m5.length d5) := Four.new_ w2 (.bool (decide (z1.num < 0))) (.slice A5 l5.length c5) (.bool false) (.slice B5 m5.length d5) 26
  have bn : Below w2.heap.size w2 (w2.alloc (.cells #[.bool (decide (z1.num < 0)), .slice A5 l5.length c5, .bool false, .slice B5 m5.length d5] 26)) := (Below.refl _ _).alloc (Nat.le_refl _) _
  replace t1 := t1.below bn t1.lt
  replace bel := bel.trans (bn.mono bel.size)
  replace C1 := C1.below bn
  clear bn
  generalize (w2.alloc (.cells #[.bool (decide (z1.num < 0)), .slice A5 l5.length c5, .bool false, .slice B5 m5.length d5] 26)) = v1 at t1 bel C1 t3 ⊢
  generalize w2.heap.size = g3 at t1 bel C1 t3 hg3 ⊢
  have t3_0 := t3.c0
  have t3_1 := t3.c1
  have t3_2 := t3.c2
  have t3_3 := t3.c3
  go_wp2_with fail
  refine (HZR.out _ _ _ _ C1.a).mono ?_
  rintro e w3 ⟨rfl, hb⟩
  clear t3_0 t3_1 t3_2 t3_3
  replace t1 := t1.below hb t1.lt
  replace bel := bel.trans (hb.mono bel.size)
  replace C1 := C1.below hb
  replace t3 := t3.below hb t3.lt
  clear hb
  have t3_0 := t3.c0
  have t3_1 := t3.c1
  have t3_2 := t3.c2
  have t3_3 := t3.c3
  rw [GS.out] at t3_0
  go_wp2_with fail
  go_ret
  exact ⟨rfl, bel⟩

set_option maxRecDepth 100000 in
set_option maxHeartbeats 1500000 in
theorem rrsgn_m {p1 : Bool} {A1 : Option Addr} {c1 : Nat} {l1 : List Nat} {q1 : Bool} {B1 : Option Addr} {d1 : Nat} {m1 : List Nat} {z1 : Rat} {n : Nat} {w : World} (h1 : Rv w p1 A1 c1 l1 q1 B1 d1 m1 z1 n) (hn : n ≤ 100) (hn1 : 1 ≤ n) (hs : z1.num < 0) :
    Calls Tryz.prog 32 #[ratV p1 A1 l1.length c1 q1 B1 m1.length d1] w fun e w' => e = .returned (.int .i64 (-1)) ∧ Below w.heap.size w w' := by
  have HCL := Lib.hid (fun (W : World) (h : Rv W p1 A1 c1 l1 q1 B1 d1 m1 z1 n) => rrcln h hn hn1)
  have HZR := Lib.hid (fun (W : World) (A : Option Addr) (c : Nat) (l : List Nat) (h : Cn W (decide (z1.num < 0)) A c l z1.num n) => (by have h := grz h.iv hn; rwa [decide_eq_false (show ¬ z1.num = 0 by omega)] at h : Calls Tryz.prog 56 #[.agg #[.bool (decide (z1.num < 0)), .slice A l.length c]] W fun e w' => e = .returned (.bool false) ∧ Below W.heap.size W w'))
  have GS : Hid (decide (z1.num < 0) = true) := Lib.hid (decide_eq_true hs)
  clear hn hn1 hs
  unfold ratV
  go_enter Tryz.func32, Tryz.ntmps32
  go_wp2_with fail
  have t1 : Four (w.alloc (.cells #[.bool p1, .slice A1 l1.length c1, .bool q1, .slice B1 m1.length d1] 26)) w.heap.size (.bool p1) (.slice A1 l1.length c1) (.bool q1) (.slice B1 m1.length d1) := Four.new_ w (.bool p1) (.slice A1 l1.length c1) (.bool q1) (.slice B1 m1.length d1) 26
  have bel : Below w.heap.size w (w.alloc (.cells #[.bool p1, .slice A1 l1.length c1, .bool q1, .slice B1 m1.length d1] 26)) := (Below.refl _ _).alloc (Nat.le_refl _) _
  generalize (w.alloc (.cells #[.bool p1, .slice A1 l1.length c1, .bool q1, .slice B1 m1.length d1] 26)) = wx at t1 bel ⊢
  have X := h1.below bel
  have t1_0 := t1.c0
  have t1_1 := t1.c1
  have t1_2 := t1.c2
  have t1_3 := t1.c3
  go_wp2_with fail
  refine (HCL.out _ X).mono ?_
  rintro e w2 ⟨A5, c5, l5, B5, d5, m5, rfl, C1, hb⟩
  clear t1_0 t1_1 t1_2 t1_3
  replace t1 := t1.below hb t1.lt
  replace bel := bel.trans (hb.mono bel.size)
  clear hb
  clear X
  go_upto_region 2 with (fail)
  have hg3 : w.heap.size < w2.heap.size := t1.lt
  have t3 : Four (w2.alloc (.cells #[.bool (decide (z1.num < 0)), .slice A5 l5.length c5, .bool false, .slice B5 m5.length d5] 26)) w2.heap.size (.bool (decide (z1.num < 0))) (.slice A5 l5.length c5) (.bool false) (.slice B5 m5.length d5) := Four.new_ w2 (.bool (decide (z1.num < 0))) (.slice A5 l5.length c5) (.bool false) (.slice B5 m5.length d5) 26
  have bn : Below w2.heap.size w2 (w2.alloc (.cells #[.bool (decide (z1.num < 0)), .slice A5 l5.length c5, .bool false, .slice B5 m5.length d5] 26)) := (Below.refl _ _).alloc (Nat.le_refl _) _
  replace t1 := t1.below bn t1.lt
  replace bel := bel.trans (bn.mono bel.size)
  replace C1 := C1.below bn
  clear bn
  generalize (w2.alloc (.cells #[.bool (decide (z1.num < 0)), .slice A5 l5.length c5, .bool false, .slice B5 m5.length d5] 26)) = v1 at t1 bel C1 t3 ⊢
  generalize w2.heap.size = g3 at t1 bel C1 t3 hg3 ⊢
  have t3_0 := t3.c0
  have t3_1 := t3.c1
  have t3_2 := t3.c2
  have t3_3 := t3.c3
  go_wp2_with fail
  refine (HZR.out _ _ _ _ C1.a).mono ?_
  rintro e w3 ⟨rfl, hb⟩
  clear t3_0 t3_1 t3_2 t3_3
  replace t1 := t1.below hb t1.lt
  replace bel := bel.trans (hb.mono bel.size)
  replace C1 := C1.below hb
  replace t3 := t3.below hb t3.lt
  clear hb
  have t3_0 := t3.c0
  have t3_1 := t3.c1
  have t3_2 := t3.c2
  have t3_3 := t3.c3
  rw [GS.out] at t3_0
  go_wp2_with fail
  go_ret
  exact ⟨rfl, bel⟩

theorem rrsgn {p1 : Bool} {A1 : Option Addr} {c1 : Nat} {l1 : List Nat} {q1 : Bool} {B1 : Option Addr} {d1 : Nat} {m1 : List Nat} {z1 : Rat} {n : Nat} {w : World} (h1 : Rv w p1 A1 c1 l1 q1 B1 d1 m1 z1 n) (hn : n ≤ 100) (hn1 : 1 ≤ n) :
    Calls Tryz.prog 32 #[ratV p1 A1 l1.length c1 q1 B1 m1.length d1] w fun e w' => e = .returned (.int .i64 z1.num.sign) ∧ Below w.heap.size w w' := by
  rcases Int.lt_trichotomy z1.num 0 with h | h | h
  · rw [Int.sign_eq_neg_one_of_neg h]; exact rrsgn_m h1 hn hn1 h
  · have e : z1.num.sign = 0 := by rw [h]; rfl
    rw [e]; exact rrsgn_z h1 hn hn1 h
  · rw [Int.sign_eq_one_of_pos h]; exact rrsgn_p h1 hn hn1 h
end Go.Proofs.YtpfaddgcfacgdaaGreatDoor
/- Walks of package rational: RationalArithmetic, the divisor not zero. -/
namespace Go.Proofs.YtpfaddgcfacgdaaGreatDoor
open Go.RowKit
set_option linter.unusedVariables false

set_option maxRecDepth 100000 in
set_option maxHeartbeats 4000000 in
theorem arithmetic_ok (p1 : Bool) (A1 : Option Addr) (l1 : List Nat) (c1 : Nat) (q1 : Bool) (B1 : Option Addr) (m1 : List Nat) (d1 : Nat) (p2 : Bool) (A2 : Option Addr) (l2 : List Nat) (c2 : Nat) (q2 : Bool) (B2 : Option Addr) (m2 : List Nat) (d2 : Nat) {z1 z2 : Rat} (w : World) (h1 : Rv w p1 A1 c1 l1 q1 B1 d1 m1 z1 4) (h2 : Rv w p2 A2 c2 l2 q2 B2 d2 m2 z2 4) (ht : Tabs w) (mx : Mx w) (f1 : decide (l1.length ≤ 4 ∧ m1.length ≤ 4) = true) (f2 : decide (l2.length ≤ 4 ∧ m2.length ≤ 4) = true) (h0 : z2 ≠ 0) :
    Calls Tryz.prog 6 #[ratV p1 A1 l1.length c1 q1 B1 m1.length d1, ratV p2 A2 l2.length c2 q2 B2 m2.length d2] w fun e w' => e = .returned (.bool true) ∧ Below w.heap.size w w' := by
  obtain ⟨s, hs⟩ : ∃ s, s = z1.num.sign := ⟨_, rfl⟩
  have ss : (s == s) = true := beq_self_eq_true s
  have HSG1 := Lib.hid (fun (W : World) (h : Rv W p1 A1 c1 l1 q1 B1 d1 m1 z1 4) => (by have h := rsgn h (by decide); rw [← hs] at h; exact h : Calls Tryz.prog 31 #[.agg #[.bool p1, .slice A1 l1.length c1, .bool q1, .slice B1 m1.length d1]] W fun e w' => e = .returned (.int .i64 s) ∧ Below W.heap.size W w'))
  have HSG2 := Lib.hid (fun (W : World) (h : Rv W p1 A1 c1 l1 q1 B1 d1 m1 z1 4) => (by have h := rrsgn h (by decide) (by decide); rw [← hs] at h; exact h : Calls Tryz.prog 32 #[.agg #[.bool p1, .slice A1 l1.length c1, .bool q1, .slice B1 m1.length d1]] W fun e w' => e = .returned (.int .i64 s) ∧ Below W.heap.size W w'))
  obtain ⟨zn, hzn⟩ : ∃ z, z = -z1 := ⟨_, rfl⟩
  have HNG1 := Lib.hid (fun (W : World) (h : Rv W p1 A1 c1 l1 q1 B1 d1 m1 z1 4) => (by have h := rneg h (by decide) (by decide); rw [← hzn] at h; exact h : Calls Tryz.prog 29 #[.agg #[.bool p1, .slice A1 l1.length c1, .bool q1, .slice B1 m1.length d1]] W (GR zn 4 W)))
  have HNG2 := Lib.hid (fun (W : World) (h : Rv W p1 A1 c1 l1 q1 B1 d1 m1 z1 4) => (by have h := rrneg h (by decide) (by decide); rw [← hzn] at h; exact h : Calls Tryz.prog 30 #[.agg #[.bool p1, .slice A1 l1.length c1, .bool q1, .slice B1 m1.length d1]] W (GR zn 4 W)))
  clear hzn
  have HZ := Lib.hid h0
  clear hs h0
  have HF1 := Lib.hid (fun (W : World) => gfew p1 A1 c1 l1.length q1 B1 d1 m1.length true (Lib.hid f1) W)
  have HF2 := Lib.hid (fun (W : World) => gfew p2 A2 c2 l2.length q2 B2 d2 m2.length true (Lib.hid f2) W)
  clear f1 f2
  unfold ratV
  go_enter Tryz.func6, Tryz.ntmps6
  go_wp2_with fail
  have t1 : Four ((w.alloc (.cells #[.bool p1, .slice A1 l1.length c1, .bool q1, .slice B1 m1.length d1] 26)).alloc (.cells #[.bool p2, .slice A2 l2.length c2, .bool q2, .slice B2 m2.length d2] 26)) w.heap.size (.bool p1) (.slice A1 l1.length c1) (.bool q1) (.slice B1 m1.length d1) := (Four.new_ w (.bool p1) (.slice A1 l1.length c1) (.bool q1) (.slice B1 m1.length d1) 26).alloc _
  have t2 : Four ((w.alloc (.cells #[.bool p1, .slice A1 l1.length c1, .bool q1, .slice B1 m1.length d1] 26)).alloc (.cells #[.bool p2, .slice A2 l2.length c2, .bool q2, .slice B2 m2.length d2] 26)) (w.heap.size + 1) (.bool p2) (.slice A2 l2.length c2) (.bool q2) (.slice B2 m2.length d2) := by simpa only [World.size_alloc, Nat.add_assoc, Nat.reduceAdd] using Four.new_ (w.alloc (.cells #[.bool p1, .slice A1 l1.length c1, .bool q1, .slice B1 m1.length d1] 26)) (.bool p2) (.slice A2 l2.length c2) (.bool q2) (.slice B2 m2.length d2) 26
  have bel : Below w.heap.size w ((w.alloc (.cells #[.bool p1, .slice A1 l1.length c1, .bool q1, .slice B1 m1.length d1] 26)).alloc (.cells #[.bool p2, .slice A2 l2.length c2, .bool q2, .slice B2 m2.length d2] 26)) := ((Below.refl _ _).alloc (Nat.le_refl _) _).alloc (by simp only [World.size_alloc]; omega) _
  generalize ((w.alloc (.cells #[.bool p1, .slice A1 l1.length c1, .bool q1, .slice B1 m1.length d1] 26)).alloc (.cells #[.bool p2, .slice A2 l2.length c2, .bool q2, .slice B2 m2.length d2] 26)) = wx at t1 t2 bel ⊢
  refine (rknown_ok _ (ht.below bel) (mx.below_ bel)).mono ?_
  rintro e w2 ⟨rfl, hb⟩
  replace t1 := t1.below hb t1.lt
  replace t2 := t2.below hb t2.lt
  replace bel := bel.trans (hb.mono bel.size)
  clear hb
  have t1_0 := t1.c0
  have t1_1 := t1.c1
  have t1_2 := t1.c2
  have t1_3 := t1.c3
  go_wp2_with fail
  refine (HF1.out _).mono ?_
  rintro e w3 ⟨rfl, hb⟩
  clear t1_0 t1_1 t1_2 t1_3
  replace t1 := t1.below hb t1.lt
  replace t2 := t2.below hb t2.lt
  replace bel := bel.trans (hb.mono bel.size)
  clear hb
  have t2_0 := t2.c0
  have t2_1 := t2.c1
  have t2_2 := t2.c2
  have t2_3 := t2.c3
  go_wp2_with fail
  refine (HF2.out _).mono ?_
  rintro e w4 ⟨rfl, hb⟩
  clear t2_0 t2_1 t2_2 t2_3
  replace t1 := t1.below hb t1.lt
  replace t2 := t2.below hb t2.lt
  replace bel := bel.trans (hb.mono bel.size)
  clear hb
  clear HF1 HF2
  have X := h1.below bel
  have Y := h2.below bel
  have t1_0 := t1.c0
  have t1_1 := t1.c1
  have t1_2 := t1.c2
  have t1_3 := t1.c3
  have t2_0 := t2.c0
  have t2_1 := t2.c1
  have t2_2 := t2.c2
  have t2_3 := t2.c3
  go_wp2_with fail
  refine (rdiv X Y (by decide) (by decide) (by decide) (by decide) HZ.out).mono ?_
  rintro e w5 ⟨A3, c3, l3, B3, d3, m3, rfl, Q, hb⟩
  clear t1_0 t1_1 t1_2 t1_3 t2_0 t2_1 t2_2 t2_3
  replace t1 := t1.below hb t1.lt
  replace t2 := t2.below hb t2.lt
  replace bel := bel.trans (hb.mono bel.size)
  replace X := X.below hb
  replace Y := Y.below hb
  clear hb
  go_upto_region 6 with (fail)
  have hg5 : w.heap.size + 1 < w5.heap.size := t2.lt
  have t5 : Four (w5.alloc (.cells #[.bool (decide ((z1 / z2).num < 0)), .slice A3 l3.length c3, .bool false, .slice B3 m3.length d3] 26)) w5.heap.size (.bool (decide ((z1 / z2).num < 0))) (.slice A3 l3.length c3) (.bool false) (.slice B3 m3.length d3) := Four.new_ w5 (.bool (decide ((z1 / z2).num < 0))) (.slice A3 l3.length c3) (.bool false) (.slice B3 m3.length d3) 26
  have bn : Below w5.heap.size w5 (w5.alloc (.cells #[.bool (decide ((z1 / z2).num < 0)), .slice A3 l3.length c3, .bool false, .slice B3 m3.length d3] 26)) := (Below.refl _ _).alloc (Nat.le_refl _) _
  replace t1 := t1.below bn t1.lt
  replace t2 := t2.below bn t2.lt
  replace bel := bel.trans (bn.mono bel.size)
  replace X := X.below bn
  replace Y := Y.below bn
  replace Q := Q.below bn
  clear bn
  generalize (w5.alloc (.cells #[.bool (decide ((z1 / z2).num < 0)), .slice A3 l3.length c3, .bool false, .slice B3 m3.length d3] 26)) = v1 at t1 t2 bel X Y Q t5 ⊢
  generalize w5.heap.size = g5 at t1 t2 bel X Y Q t5 hg5 ⊢
  have t1_0 := t1.c0
  have t1_1 := t1.c1
  have t1_2 := t1.c2
  have t1_3 := t1.c3
  have t2_0 := t2.c0
  have t2_1 := t2.c1
  have t2_2 := t2.c2
  have t2_3 := t2.c3
  go_wp2_with fail
  refine (rrdiv X Y (by decide) (by decide) (by decide) (by decide) HZ.out).mono ?_
  rintro e w6 ⟨A4, c4, l4, B4, d4, m4, rfl, P, hb⟩
  clear t1_0 t1_1 t1_2 t1_3 t2_0 t2_1 t2_2 t2_3
  replace t1 := t1.below hb t1.lt
  replace t2 := t2.below hb t2.lt
  replace bel := bel.trans (hb.mono bel.size)
  replace X := X.below hb
  replace Y := Y.below hb
  replace Q := Q.below hb
  replace t5 := t5.below hb t5.lt
  clear hb
  go_upto_region 7 with (fail)
  have hg7 : g5 < w6.heap.size := t5.lt
  have t7 : Four (w6.alloc (.cells #[.bool (decide ((z1 / z2).num < 0)), .slice A4 l4.length c4, .bool false, .slice B4 m4.length d4] 26)) w6.heap.size (.bool (decide ((z1 / z2).num < 0))) (.slice A4 l4.length c4) (.bool false) (.slice B4 m4.length d4) := Four.new_ w6 (.bool (decide ((z1 / z2).num < 0))) (.slice A4 l4.length c4) (.bool false) (.slice B4 m4.length d4) 26
  have bn : Below w6.heap.size w6 (w6.alloc (.cells #[.bool (decide ((z1 / z2).num < 0)), .slice A4 l4.length c4, .bool false, .slice B4 m4.length d4] 26)) := (Below.refl _ _).alloc (Nat.le_refl _) _
  replace t1 := t1.below bn t1.lt
  replace t2 := t2.below bn t2.lt
  replace bel := bel.trans (bn.mono bel.size)
  replace X := X.below bn
  replace Y := Y.below bn
  replace Q := Q.below bn
  replace t5 := t5.below bn t5.lt
  replace P := P.below bn
  clear bn
  generalize (w6.alloc (.cells #[.bool (decide ((z1 / z2).num < 0)), .slice A4 l4.length c4, .bool false, .slice B4 m4.length d4] 26)) = v2 at t1 t2 bel X Y Q t5 P t7 ⊢
  generalize w6.heap.size = g7 at t1 t2 bel X Y Q t5 P t7 hg7 ⊢
  replace t1 := t1.drew
  replace t2 := t2.drew
  replace bel := bDrew1 bel
  replace X := X.drew
  replace Y := Y.drew
  replace Q := Q.drew
  replace t5 := t5.drew
  replace P := P.drew
  replace t7 := t7.drew
  go_region_held3 (fun w' => w'.cell? ⟨w.heap.size, 0, none⟩ = some (.bool p1) ∧ w'.cell? ⟨w.heap.size, 1, none⟩ = some (.slice A1 l1.length c1) ∧ w'.cell? ⟨w.heap.size, 2, none⟩ = some (.bool q1) ∧ w'.cell? ⟨w.heap.size, 3, none⟩ = some (.slice B1 m1.length d1) ∧ w'.cell? ⟨w.heap.size + 1, 0, none⟩ = some (.bool p2) ∧ w'.cell? ⟨w.heap.size + 1, 1, none⟩ = some (.slice A2 l2.length c2) ∧ w'.cell? ⟨w.heap.size + 1, 2, none⟩ = some (.bool q2) ∧ w'.cell? ⟨w.heap.size + 1, 3, none⟩ = some (.slice B2 m2.length d2) ∧ w'.cell? ⟨g5, 0, none⟩ = some (.bool (decide ((z1 / z2).num < 0))) ∧ w'.cell? ⟨g5, 1, none⟩ = some (.slice A3 l3.length c3) ∧ w'.cell? ⟨g5, 2, none⟩ = some (.bool false) ∧ w'.cell? ⟨g5, 3, none⟩ = some (.slice B3 m3.length d3) ∧ w'.cell? ⟨g7, 0, none⟩ = some (.bool (decide ((z1 / z2).num < 0))) ∧ w'.cell? ⟨g7, 1, none⟩ = some (.slice A4 l4.length c4) ∧ w'.cell? ⟨g7, 2, none⟩ = some (.bool false) ∧ w'.cell? ⟨g7, 3, none⟩ = some (.slice B4 m4.length d4))
    (with_reducible exact ⟨t1.c0, t1.c1, t1.c2, t1.c3, t2.c0, t2.c1, t2.c2, t2.c3, t5.c0, t5.c1, t5.c2, t5.c3, t7.c0, t7.c1, t7.c2, t7.c3⟩)
    (first
      | (go_at_call 23; (with_reducible refine (radd X Y (by decide) (by decide) (by decide) (by decide)).mono ?_); rintro e wa ⟨A5, c5, l5, B5, d5, m5, rfl, E5, hb⟩; replace t1 := t1.below hb t1.lt; replace t2 := t2.below hb t2.lt; replace bel := bel.trans (hb.mono bel.size); replace X := X.below hb; replace Y := Y.below hb; replace Q := Q.below hb; replace t5 := t5.below hb t5.lt; replace P := P.below hb; replace t7 := t7.below hb t7.lt; clear hb)
      | (go_at_call 24; (with_reducible refine (rradd X Y (by decide) (by decide) (by decide) (by decide)).mono ?_); rintro e wa ⟨A6, c6, l6, B6, d6, m6, rfl, E6, hb⟩; replace t1 := t1.below hb t1.lt; replace t2 := t2.below hb t2.lt; replace bel := bel.trans (hb.mono bel.size); replace X := X.below hb; replace Y := Y.below hb; replace Q := Q.below hb; replace t5 := t5.below hb t5.lt; replace P := P.below hb; replace t7 := t7.below hb t7.lt; replace E5 := E5.below hb; clear hb)
      | (go_at_call 14; (with_reducible refine (rsame E5 E6 (by decide) (by decide) rfl).mono ?_); rintro e wa ⟨rfl, hb⟩; replace t1 := t1.below hb t1.lt; replace t2 := t2.below hb t2.lt; replace bel := bel.trans (hb.mono bel.size); replace X := X.below hb; replace Y := Y.below hb; replace Q := Q.below hb; replace t5 := t5.below hb t5.lt; replace P := P.below hb; replace t7 := t7.below hb t7.lt; replace E5 := E5.below hb; replace E6 := E6.below hb; clear hb)
      | (go_at_call 25; (with_reducible refine (rsub X Y (by decide) (by decide) (by decide) (by decide)).mono ?_); rintro e wa ⟨A7, c7, l7, B7, d7, m7, rfl, E7, hb⟩; replace t1 := t1.below hb t1.lt; replace t2 := t2.below hb t2.lt; replace bel := bel.trans (hb.mono bel.size); replace X := X.below hb; replace Y := Y.below hb; replace Q := Q.below hb; replace t5 := t5.below hb t5.lt; replace P := P.below hb; replace t7 := t7.below hb t7.lt; replace E5 := E5.below hb; replace E6 := E6.below hb; clear hb)
      | (go_at_call 26; (with_reducible refine (rrsub X Y (by decide) (by decide) (by decide) (by decide)).mono ?_); rintro e wa ⟨A8, c8, l8, B8, d8, m8, rfl, E8, hb⟩; replace t1 := t1.below hb t1.lt; replace t2 := t2.below hb t2.lt; replace bel := bel.trans (hb.mono bel.size); replace X := X.below hb; replace Y := Y.below hb; replace Q := Q.below hb; replace t5 := t5.below hb t5.lt; replace P := P.below hb; replace t7 := t7.below hb t7.lt; replace E5 := E5.below hb; replace E6 := E6.below hb; replace E7 := E7.below hb; clear hb)
      | (go_at_call 14; (with_reducible refine (rsame E7 E8 (by decide) (by decide) rfl).mono ?_); rintro e wa ⟨rfl, hb⟩; replace t1 := t1.below hb t1.lt; replace t2 := t2.below hb t2.lt; replace bel := bel.trans (hb.mono bel.size); replace X := X.below hb; replace Y := Y.below hb; replace Q := Q.below hb; replace t5 := t5.below hb t5.lt; replace P := P.below hb; replace t7 := t7.below hb t7.lt; replace E5 := E5.below hb; replace E6 := E6.below hb; replace E7 := E7.below hb; replace E8 := E8.below hb; clear hb)
      | (go_at_call 27; (with_reducible refine (rmul X Y (by decide) (by decide) (by decide) (by decide)).mono ?_); rintro e wa ⟨A9, c9, l9, B9, d9, m9, rfl, E9, hb⟩; replace t1 := t1.below hb t1.lt; replace t2 := t2.below hb t2.lt; replace bel := bel.trans (hb.mono bel.size); replace X := X.below hb; replace Y := Y.below hb; replace Q := Q.below hb; replace t5 := t5.below hb t5.lt; replace P := P.below hb; replace t7 := t7.below hb t7.lt; replace E5 := E5.below hb; replace E6 := E6.below hb; replace E7 := E7.below hb; replace E8 := E8.below hb; clear hb)
      | (go_at_call 28; (with_reducible refine (rrmul X Y (by decide) (by decide) (by decide) (by decide)).mono ?_); rintro e wa ⟨A10, c10, l10, B10, d10, m10, rfl, E10, hb⟩; replace t1 := t1.below hb t1.lt; replace t2 := t2.below hb t2.lt; replace bel := bel.trans (hb.mono bel.size); replace X := X.below hb; replace Y := Y.below hb; replace Q := Q.below hb; replace t5 := t5.below hb t5.lt; replace P := P.below hb; replace t7 := t7.below hb t7.lt; replace E5 := E5.below hb; replace E6 := E6.below hb; replace E7 := E7.below hb; replace E8 := E8.below hb; replace E9 := E9.below hb; clear hb)
      | (go_at_call 14; (with_reducible refine (rsame E9 E10 (by decide) (by decide) rfl).mono ?_); rintro e wa ⟨rfl, hb⟩; replace t1 := t1.below hb t1.lt; replace t2 := t2.below hb t2.lt; replace bel := bel.trans (hb.mono bel.size); replace X := X.below hb; replace Y := Y.below hb; replace Q := Q.below hb; replace t5 := t5.below hb t5.lt; replace P := P.below hb; replace t7 := t7.below hb t7.lt; replace E5 := E5.below hb; replace E6 := E6.below hb; replace E7 := E7.below hb; replace E8 := E8.below hb; replace E9 := E9.below hb; replace E10 := E10.below hb; clear hb)
      | (go_at_call 29; (with_reducible refine (HNG1.out _ X).mono ?_); rintro e wa ⟨A11, c11, l11, B11, d11, m11, rfl, E11, hb⟩; replace t1 := t1.below hb t1.lt; replace t2 := t2.below hb t2.lt; replace bel := bel.trans (hb.mono bel.size); replace X := X.below hb; replace Y := Y.below hb; replace Q := Q.below hb; replace t5 := t5.below hb t5.lt; replace P := P.below hb; replace t7 := t7.below hb t7.lt; replace E5 := E5.below hb; replace E6 := E6.below hb; replace E7 := E7.below hb; replace E8 := E8.below hb; replace E9 := E9.below hb; replace E10 := E10.below hb; clear hb)
      | (go_at_call 30; (with_reducible refine (HNG2.out _ X).mono ?_); rintro e wa ⟨A12, c12, l12, B12, d12, m12, rfl, E12, hb⟩; replace t1 := t1.below hb t1.lt; replace t2 := t2.below hb t2.lt; replace bel := bel.trans (hb.mono bel.size); replace X := X.below hb; replace Y := Y.below hb; replace Q := Q.below hb; replace t5 := t5.below hb t5.lt; replace P := P.below hb; replace t7 := t7.below hb t7.lt; replace E5 := E5.below hb; replace E6 := E6.below hb; replace E7 := E7.below hb; replace E8 := E8.below hb; replace E9 := E9.below hb; replace E10 := E10.below hb; replace E11 := E11.below hb; clear hb)
      | (go_at_call 14; (with_reducible refine (rsame E11 E12 (by decide) (by decide) rfl).mono ?_); rintro e wa ⟨rfl, hb⟩; replace t1 := t1.below hb t1.lt; replace t2 := t2.below hb t2.lt; replace bel := bel.trans (hb.mono bel.size); replace X := X.below hb; replace Y := Y.below hb; replace Q := Q.below hb; replace t5 := t5.below hb t5.lt; replace P := P.below hb; replace t7 := t7.below hb t7.lt; replace E5 := E5.below hb; replace E6 := E6.below hb; replace E7 := E7.below hb; replace E8 := E8.below hb; replace E9 := E9.below hb; replace E10 := E10.below hb; replace E11 := E11.below hb; replace E12 := E12.below hb; clear hb)
      | (go_at_call 14; (with_reducible refine (rsame Q P (by decide) (by decide) rfl).mono ?_); rintro e wa ⟨rfl, hb⟩; replace t1 := t1.below hb t1.lt; replace t2 := t2.below hb t2.lt; replace bel := bel.trans (hb.mono bel.size); replace X := X.below hb; replace Y := Y.below hb; replace Q := Q.below hb; replace t5 := t5.below hb t5.lt; replace P := P.below hb; replace t7 := t7.below hb t7.lt; replace E5 := E5.below hb; replace E6 := E6.below hb; replace E7 := E7.below hb; replace E8 := E8.below hb; replace E9 := E9.below hb; replace E10 := E10.below hb; replace E11 := E11.below hb; replace E12 := E12.below hb; clear hb)
      | (go_at_call 31; (with_reducible refine (HSG1.out _ X).mono ?_); rintro e wa ⟨rfl, hb⟩; replace t1 := t1.below hb t1.lt; replace t2 := t2.below hb t2.lt; replace bel := bel.trans (hb.mono bel.size); replace X := X.below hb; replace Y := Y.below hb; replace Q := Q.below hb; replace t5 := t5.below hb t5.lt; replace P := P.below hb; replace t7 := t7.below hb t7.lt; replace E5 := E5.below hb; replace E6 := E6.below hb; replace E7 := E7.below hb; replace E8 := E8.below hb; replace E9 := E9.below hb; replace E10 := E10.below hb; replace E11 := E11.below hb; replace E12 := E12.below hb; clear hb)
      | (go_at_call 32; (with_reducible refine (HSG2.out _ X).mono ?_); rintro e wa ⟨rfl, hb⟩; replace t1 := t1.below hb t1.lt; replace t2 := t2.below hb t2.lt; replace bel := bel.trans (hb.mono bel.size); replace X := X.below hb; replace Y := Y.below hb; replace Q := Q.below hb; replace t5 := t5.below hb t5.lt; replace P := P.below hb; replace t7 := t7.below hb t7.lt; replace E5 := E5.below hb; replace E6 := E6.below hb; replace E7 := E7.below hb; replace E8 := E8.below hb; replace E9 := E9.below hb; replace E10 := E10.below hb; replace E11 := E11.below hb; replace E12 := E12.below hb; clear hb))
  go_wp2_with fail
  go_ret
  exact ⟨rfl, bel⟩
end Go.Proofs.YtpfaddgcfacgdaaGreatDoor
/- Walks of package rational: RationalArithmetic, the divisor zero. -/
namespace Go.Proofs.YtpfaddgcfacgdaaGreatDoor
open Go.RowKit
set_option linter.unusedVariables false

set_option maxRecDepth 100000 in
set_option maxHeartbeats 4000000 in
theorem arithmetic_zero (p1 : Bool) (A1 : Option Addr) (l1 : List Nat) (c1 : Nat) (q1 : Bool) (B1 : Option Addr) (m1 : List Nat) (d1 : Nat) (p2 : Bool) (A2 : Option Addr) (l2 : List Nat) (c2 : Nat) (q2 : Bool) (B2 : Option Addr) (m2 : List Nat) (d2 : Nat) {z1 z2 : Rat} (w : World) (h1 : Rv w p1 A1 c1 l1 q1 B1 d1 m1 z1 4) (h2 : Rv w p2 A2 c2 l2 q2 B2 d2 m2 z2 4) (ht : Tabs w) (mx : Mx w) (f1 : decide (l1.length ≤ 4 ∧ m1.length ≤ 4) = true) (f2 : decide (l2.length ≤ 4 ∧ m2.length ≤ 4) = true) (h0 : z2 = 0) :
    Calls Tryz.prog 6 #[ratV p1 A1 l1.length c1 q1 B1 m1.length d1, ratV p2 A2 l2.length c2 q2 B2 m2.length d2] w fun e w' => e = .returned (.bool true) ∧ Below w.heap.size w w' := by
  obtain ⟨s, hs⟩ : ∃ s, s = z1.num.sign := ⟨_, rfl⟩
  have ss : (s == s) = true := beq_self_eq_true s
  have HSG1 := Lib.hid (fun (W : World) (h : Rv W p1 A1 c1 l1 q1 B1 d1 m1 z1 4) => (by have h := rsgn h (by decide); rw [← hs] at h; exact h : Calls Tryz.prog 31 #[.agg #[.bool p1, .slice A1 l1.length c1, .bool q1, .slice B1 m1.length d1]] W fun e w' => e = .returned (.int .i64 s) ∧ Below W.heap.size W w'))
  have HSG2 := Lib.hid (fun (W : World) (h : Rv W p1 A1 c1 l1 q1 B1 d1 m1 z1 4) => (by have h := rrsgn h (by decide) (by decide); rw [← hs] at h; exact h : Calls Tryz.prog 32 #[.agg #[.bool p1, .slice A1 l1.length c1, .bool q1, .slice B1 m1.length d1]] W fun e w' => e = .returned (.int .i64 s) ∧ Below W.heap.size W w'))
  obtain ⟨zn, hzn⟩ : ∃ z, z = -z1 := ⟨_, rfl⟩
  have HNG1 := Lib.hid (fun (W : World) (h : Rv W p1 A1 c1 l1 q1 B1 d1 m1 z1 4) => (by have h := rneg h (by decide) (by decide); rw [← hzn] at h; exact h : Calls Tryz.prog 29 #[.agg #[.bool p1, .slice A1 l1.length c1, .bool q1, .slice B1 m1.length d1]] W (GR zn 4 W)))
  have HNG2 := Lib.hid (fun (W : World) (h : Rv W p1 A1 c1 l1 q1 B1 d1 m1 z1 4) => (by have h := rrneg h (by decide) (by decide); rw [← hzn] at h; exact h : Calls Tryz.prog 30 #[.agg #[.bool p1, .slice A1 l1.length c1, .bool q1, .slice B1 m1.length d1]] W (GR zn 4 W)))
  clear hzn
  have HZ := Lib.hid h0
  have HS0 : Hid (∀ W : World, Calls Tryz.prog 14 #[.agg #[.bool false, .slice none 0 0, .bool false, .slice none 0 0], .agg #[.bool false, .slice none 0 0, .bool false, .slice none 0 0]] W fun e w' => e = .returned (.bool true) ∧ Below W.heap.size W w') := Lib.hid (fun W => same_raw (Sl.nil _ _) (Sl.nil _ _) (Sl.nil _ _) (Sl.nil _ _) (by decide) (by decide) (by decide) (by decide))
  clear hs h0
  have HF1 := Lib.hid (fun (W : World) => gfew p1 A1 c1 l1.length q1 B1 d1 m1.length true (Lib.hid f1) W)
  have HF2 := Lib.hid (fun (W : World) => gfew p2 A2 c2 l2.length q2 B2 d2 m2.length true (Lib.hid f2) W)
  clear f1 f2
  unfold ratV
  go_enter Tryz.func6, Tryz.ntmps6
  go_wp2_with fail
  have t1 : Four ((w.alloc (.cells #[.bool p1, .slice A1 l1.length c1, .bool q1, .slice B1 m1.length d1] 26)).alloc (.cells #[.bool p2, .slice A2 l2.length c2, .bool q2, .slice B2 m2.length d2] 26)) w.heap.size (.bool p1) (.slice A1 l1.length c1) (.bool q1) (.slice B1 m1.length d1) := (Four.new_ w (.bool p1) (.slice A1 l1.length c1) (.bool q1) (.slice B1 m1.length d1) 26).alloc _
  have t2 : Four ((w.alloc (.cells #[.bool p1, .slice A1 l1.length c1, .bool q1, .slice B1 m1.length d1] 26)).alloc (.cells #[.bool p2, .slice A2 l2.length c2, .bool q2, .slice B2 m2.length d2] 26)) (w.heap.size + 1) (.bool p2) (.slice A2 l2.length c2) (.bool q2) (.slice B2 m2.length d2) := by simpa only [World.size_alloc, Nat.add_assoc, Nat.reduceAdd] using Four.new_ (w.alloc (.cells #[.bool p1, .slice A1 l1.length c1, .bool q1, .slice B1 m1.length d1] 26)) (.bool p2) (.slice A2 l2.length c2) (.bool q2) (.slice B2 m2.length d2) 26
  have bel : Below w.heap.size w ((w.alloc (.cells #[.bool p1, .slice A1 l1.length c1, .bool q1, .slice B1 m1.length d1] 26)).alloc (.cells #[.bool p2, .slice A2 l2.length c2, .bool q2, .slice B2 m2.length d2] 26)) := ((Below.refl _ _).alloc (Nat.le_refl _) _).alloc (by simp only [World.size_alloc]; omega) _
  generalize ((w.alloc (.cells #[.bool p1, .slice A1 l1.length c1, .bool q1, .slice B1 m1.length d1] 26)).alloc (.cells #[.bool p2, .slice A2 l2.length c2, .bool q2, .slice B2 m2.length d2] 26)) = wx at t1 t2 bel ⊢
  refine (rknown_ok _ (ht.below bel) (mx.below_ bel)).mono ?_
  rintro e w2 ⟨rfl, hb⟩
  replace t1 := t1.below hb t1.lt
  replace t2 := t2.below hb t2.lt
  replace bel := bel.trans (hb.mono bel.size)
  clear hb
  have t1_0 := t1.c0
  have t1_1 := t1.c1
  have t1_2 := t1.c2
  have t1_3 := t1.c3
  go_wp2_with fail
  refine (HF1.out _).mono ?_
  rintro e w3 ⟨rfl, hb⟩
  clear t1_0 t1_1 t1_2 t1_3
  replace t1 := t1.below hb t1.lt
  replace t2 := t2.below hb t2.lt
  replace bel := bel.trans (hb.mono bel.size)
  clear hb
  have t2_0 := t2.c0
  have t2_1 := t2.c1
  have t2_2 := t2.c2
  have t2_3 := t2.c3
  go_wp2_with fail
  refine (HF2.out _).mono ?_
  rintro e w4 ⟨rfl, hb⟩
  clear t2_0 t2_1 t2_2 t2_3
  replace t1 := t1.below hb t1.lt
  replace t2 := t2.below hb t2.lt
  replace bel := bel.trans (hb.mono bel.size)
  clear hb
  clear HF1 HF2
  have X := h1.below bel
  have Y := h2.below bel
  have t1_0 := t1.c0
  have t1_1 := t1.c1
  have t1_2 := t1.c2
  have t1_3 := t1.c3
  have t2_0 := t2.c0
  have t2_1 := t2.c1
  have t2_2 := t2.c2
  have t2_3 := t2.c3
  go_wp2_with fail
  refine (rdiv0 X Y (by decide) (by decide) (by decide) (by decide) HZ.out).mono ?_
  rintro e w5 ⟨rfl, hb⟩
  clear t1_0 t1_1 t1_2 t1_3 t2_0 t2_1 t2_2 t2_3
  replace t1 := t1.below hb t1.lt
  replace t2 := t2.below hb t2.lt
  replace bel := bel.trans (hb.mono bel.size)
  replace X := X.below hb
  replace Y := Y.below hb
  clear hb
  go_upto_region 6 with (fail)
  have hg5 : w.heap.size + 1 < w5.heap.size := t2.lt
  have t5 : Four (w5.alloc (.cells #[.bool false, .slice none 0 0, .bool false, .slice none 0 0] 26)) w5.heap.size (.bool false) (.slice none 0 0) (.bool false) (.slice none 0 0) := Four.new_ w5 (.bool false) (.slice none 0 0) (.bool false) (.slice none 0 0) 26
  have bn : Below w5.heap.size w5 (w5.alloc (.cells #[.bool false, .slice none 0 0, .bool false, .slice none 0 0] 26)) := (Below.refl _ _).alloc (Nat.le_refl _) _
  replace t1 := t1.below bn t1.lt
  replace t2 := t2.below bn t2.lt
  replace bel := bel.trans (bn.mono bel.size)
  replace X := X.below bn
  replace Y := Y.below bn
  clear bn
  generalize (w5.alloc (.cells #[.bool false, .slice none 0 0, .bool false, .slice none 0 0] 26)) = v1 at t1 t2 bel X Y t5 ⊢
  generalize w5.heap.size = g5 at t1 t2 bel X Y t5 hg5 ⊢
  have t1_0 := t1.c0
  have t1_1 := t1.c1
  have t1_2 := t1.c2
  have t1_3 := t1.c3
  have t2_0 := t2.c0
  have t2_1 := t2.c1
  have t2_2 := t2.c2
  have t2_3 := t2.c3
  go_wp2_with fail
  refine (rrdiv0 X Y (by decide) (by decide) (by decide) (by decide) (by rw [HZ.out]; rfl)).mono ?_
  rintro e w6 ⟨rfl, hb⟩
  clear t1_0 t1_1 t1_2 t1_3 t2_0 t2_1 t2_2 t2_3
  replace t1 := t1.below hb t1.lt
  replace t2 := t2.below hb t2.lt
  replace bel := bel.trans (hb.mono bel.size)
  replace X := X.below hb
  replace Y := Y.below hb
  replace t5 := t5.below hb t5.lt
  clear hb
  go_upto_region 7 with (fail)
  have hg7 : g5 < w6.heap.size := t5.lt
  have t7 : Four (w6.alloc (.cells #[.bool false, .slice none 0 0, .bool false, .slice none 0 0] 26)) w6.heap.size (.bool false) (.slice none 0 0) (.bool false) (.slice none 0 0) := Four.new_ w6 (.bool false) (.slice none 0 0) (.bool false) (.slice none 0 0) 26
  have bn : Below w6.heap.size w6 (w6.alloc (.cells #[.bool false, .slice none 0 0, .bool false, .slice none 0 0] 26)) := (Below.refl _ _).alloc (Nat.le_refl _) _
  replace t1 := t1.below bn t1.lt
  replace t2 := t2.below bn t2.lt
  replace bel := bel.trans (bn.mono bel.size)
  replace X := X.below bn
  replace Y := Y.below bn
  replace t5 := t5.below bn t5.lt
  clear bn
  generalize (w6.alloc (.cells #[.bool false, .slice none 0 0, .bool false, .slice none 0 0] 26)) = v2 at t1 t2 bel X Y t5 t7 ⊢
  generalize w6.heap.size = g7 at t1 t2 bel X Y t5 t7 hg7 ⊢
  replace t1 := t1.drew
  replace t2 := t2.drew
  replace bel := bDrew1 bel
  replace X := X.drew
  replace Y := Y.drew
  replace t5 := t5.drew
  replace t7 := t7.drew
  go_region_held3 (fun w' => w'.cell? ⟨w.heap.size, 0, none⟩ = some (.bool p1) ∧ w'.cell? ⟨w.heap.size, 1, none⟩ = some (.slice A1 l1.length c1) ∧ w'.cell? ⟨w.heap.size, 2, none⟩ = some (.bool q1) ∧ w'.cell? ⟨w.heap.size, 3, none⟩ = some (.slice B1 m1.length d1) ∧ w'.cell? ⟨w.heap.size + 1, 0, none⟩ = some (.bool p2) ∧ w'.cell? ⟨w.heap.size + 1, 1, none⟩ = some (.slice A2 l2.length c2) ∧ w'.cell? ⟨w.heap.size + 1, 2, none⟩ = some (.bool q2) ∧ w'.cell? ⟨w.heap.size + 1, 3, none⟩ = some (.slice B2 m2.length d2) ∧ w'.cell? ⟨g5, 0, none⟩ = some (.bool false) ∧ w'.cell? ⟨g5, 1, none⟩ = some (.slice none 0 0) ∧ w'.cell? ⟨g5, 2, none⟩ = some (.bool false) ∧ w'.cell? ⟨g5, 3, none⟩ = some (.slice none 0 0) ∧ w'.cell? ⟨g7, 0, none⟩ = some (.bool false) ∧ w'.cell? ⟨g7, 1, none⟩ = some (.slice none 0 0) ∧ w'.cell? ⟨g7, 2, none⟩ = some (.bool false) ∧ w'.cell? ⟨g7, 3, none⟩ = some (.slice none 0 0))
    (with_reducible exact ⟨t1.c0, t1.c1, t1.c2, t1.c3, t2.c0, t2.c1, t2.c2, t2.c3, t5.c0, t5.c1, t5.c2, t5.c3, t7.c0, t7.c1, t7.c2, t7.c3⟩)
    (first
      | (go_at_call 23; (with_reducible refine (radd X Y (by decide) (by decide) (by decide) (by decide)).mono ?_); rintro e wa ⟨A5, c5, l5, B5, d5, m5, rfl, E5, hb⟩; replace t1 := t1.below hb t1.lt; replace t2 := t2.below hb t2.lt; replace bel := bel.trans (hb.mono bel.size); replace X := X.below hb; replace Y := Y.below hb; replace t5 := t5.below hb t5.lt; replace t7 := t7.below hb t7.lt; clear hb)
      | (go_at_call 24; (with_reducible refine (rradd X Y (by decide) (by decide) (by decide) (by decide)).mono ?_); rintro e wa ⟨A6, c6, l6, B6, d6, m6, rfl, E6, hb⟩; replace t1 := t1.below hb t1.lt; replace t2 := t2.below hb t2.lt; replace bel := bel.trans (hb.mono bel.size); replace X := X.below hb; replace Y := Y.below hb; replace t5 := t5.below hb t5.lt; replace t7 := t7.below hb t7.lt; replace E5 := E5.below hb; clear hb)
      | (go_at_call 14; (with_reducible refine (rsame E5 E6 (by decide) (by decide) rfl).mono ?_); rintro e wa ⟨rfl, hb⟩; replace t1 := t1.below hb t1.lt; replace t2 := t2.below hb t2.lt; replace bel := bel.trans (hb.mono bel.size); replace X := X.below hb; replace Y := Y.below hb; replace t5 := t5.below hb t5.lt; replace t7 := t7.below hb t7.lt; replace E5 := E5.below hb; replace E6 := E6.below hb; clear hb)
      | (go_at_call 25; (with_reducible refine (rsub X Y (by decide) (by decide) (by decide) (by decide)).mono ?_); rintro e wa ⟨A7, c7, l7, B7, d7, m7, rfl, E7, hb⟩; replace t1 := t1.below hb t1.lt; replace t2 := t2.below hb t2.lt; replace bel := bel.trans (hb.mono bel.size); replace X := X.below hb; replace Y := Y.below hb; replace t5 := t5.below hb t5.lt; replace t7 := t7.below hb t7.lt; replace E5 := E5.below hb; replace E6 := E6.below hb; clear hb)
      | (go_at_call 26; (with_reducible refine (rrsub X Y (by decide) (by decide) (by decide) (by decide)).mono ?_); rintro e wa ⟨A8, c8, l8, B8, d8, m8, rfl, E8, hb⟩; replace t1 := t1.below hb t1.lt; replace t2 := t2.below hb t2.lt; replace bel := bel.trans (hb.mono bel.size); replace X := X.below hb; replace Y := Y.below hb; replace t5 := t5.below hb t5.lt; replace t7 := t7.below hb t7.lt; replace E5 := E5.below hb; replace E6 := E6.below hb; replace E7 := E7.below hb; clear hb)
      | (go_at_call 14; (with_reducible refine (rsame E7 E8 (by decide) (by decide) rfl).mono ?_); rintro e wa ⟨rfl, hb⟩; replace t1 := t1.below hb t1.lt; replace t2 := t2.below hb t2.lt; replace bel := bel.trans (hb.mono bel.size); replace X := X.below hb; replace Y := Y.below hb; replace t5 := t5.below hb t5.lt; replace t7 := t7.below hb t7.lt; replace E5 := E5.below hb; replace E6 := E6.below hb; replace E7 := E7.below hb; replace E8 := E8.below hb; clear hb)
      | (go_at_call 27; (with_reducible refine (rmul X Y (by decide) (by decide) (by decide) (by decide)).mono ?_); rintro e wa ⟨A9, c9, l9, B9, d9, m9, rfl, E9, hb⟩; replace t1 := t1.below hb t1.lt; replace t2 := t2.below hb t2.lt; replace bel := bel.trans (hb.mono bel.size); replace X := X.below hb; replace Y := Y.below hb; replace t5 := t5.below hb t5.lt; replace t7 := t7.below hb t7.lt; replace E5 := E5.below hb; replace E6 := E6.below hb; replace E7 := E7.below hb; replace E8 := E8.below hb; clear hb)
      | (go_at_call 28; (with_reducible refine (rrmul X Y (by decide) (by decide) (by decide) (by decide)).mono ?_); rintro e wa ⟨A10, c10, l10, B10, d10, m10, rfl, E10, hb⟩; replace t1 := t1.below hb t1.lt; replace t2 := t2.below hb t2.lt; replace bel := bel.trans (hb.mono bel.size); replace X := X.below hb; replace Y := Y.below hb; replace t5 := t5.below hb t5.lt; replace t7 := t7.below hb t7.lt; replace E5 := E5.below hb; replace E6 := E6.below hb; replace E7 := E7.below hb; replace E8 := E8.below hb; replace E9 := E9.below hb; clear hb)
      | (go_at_call 14; (with_reducible refine (rsame E9 E10 (by decide) (by decide) rfl).mono ?_); rintro e wa ⟨rfl, hb⟩; replace t1 := t1.below hb t1.lt; replace t2 := t2.below hb t2.lt; replace bel := bel.trans (hb.mono bel.size); replace X := X.below hb; replace Y := Y.below hb; replace t5 := t5.below hb t5.lt; replace t7 := t7.below hb t7.lt; replace E5 := E5.below hb; replace E6 := E6.below hb; replace E7 := E7.below hb; replace E8 := E8.below hb; replace E9 := E9.below hb; replace E10 := E10.below hb; clear hb)
      | (go_at_call 29; (with_reducible refine (HNG1.out _ X).mono ?_); rintro e wa ⟨A11, c11, l11, B11, d11, m11, rfl, E11, hb⟩; replace t1 := t1.below hb t1.lt; replace t2 := t2.below hb t2.lt; replace bel := bel.trans (hb.mono bel.size); replace X := X.below hb; replace Y := Y.below hb; replace t5 := t5.below hb t5.lt; replace t7 := t7.below hb t7.lt; replace E5 := E5.below hb; replace E6 := E6.below hb; replace E7 := E7.below hb; replace E8 := E8.below hb; replace E9 := E9.below hb; replace E10 := E10.below hb; clear hb)
      | (go_at_call 30; (with_reducible refine (HNG2.out _ X).mono ?_); rintro e wa ⟨A12, c12, l12, B12, d12, m12, rfl, E12, hb⟩; replace t1 := t1.below hb t1.lt; replace t2 := t2.below hb t2.lt; replace bel := bel.trans (hb.mono bel.size); replace X := X.below hb; replace Y := Y.below hb; replace t5 := t5.below hb t5.lt; replace t7 := t7.below hb t7.lt; replace E5 := E5.below hb; replace E6 := E6.below hb; replace E7 := E7.below hb; replace E8 := E8.below hb; replace E9 := E9.below hb; replace E10 := E10.below hb; replace E11 := E11.below hb; clear hb)
      | (go_at_call 14; (with_reducible refine (rsame E11 E12 (by decide) (by decide) rfl).mono ?_); rintro e wa ⟨rfl, hb⟩; replace t1 := t1.below hb t1.lt; replace t2 := t2.below hb t2.lt; replace bel := bel.trans (hb.mono bel.size); replace X := X.below hb; replace Y := Y.below hb; replace t5 := t5.below hb t5.lt; replace t7 := t7.below hb t7.lt; replace E5 := E5.below hb; replace E6 := E6.below hb; replace E7 := E7.below hb; replace E8 := E8.below hb; replace E9 := E9.below hb; replace E10 := E10.below hb; replace E11 := E11.below hb; replace E12 := E12.below hb; clear hb)
      | (go_at_call 14; (with_reducible refine (HS0.out _).mono ?_); rintro e wa ⟨rfl, hb⟩; replace t1 := t1.below hb t1.lt; replace t2 := t2.below hb t2.lt; replace bel := bel.trans (hb.mono bel.size); replace X := X.below hb; replace Y := Y.below hb; replace t5 := t5.below hb t5.lt; replace t7 := t7.below hb t7.lt; replace E5 := E5.below hb; replace E6 := E6.below hb; replace E7 := E7.below hb; replace E8 := E8.below hb; replace E9 := E9.below hb; replace E10 := E10.below hb; replace E11 := E11.below hb; replace E12 := E12.below hb; clear hb)
      | (go_at_call 31; (with_reducible refine (HSG1.out _ X).mono ?_); rintro e wa ⟨rfl, hb⟩; replace t1 := t1.below hb t1.lt; replace t2 := t2.below hb t2.lt; replace bel := bel.trans (hb.mono bel.size); replace X := X.below hb; replace Y := Y.below hb; replace t5 := t5.below hb t5.lt; replace t7 := t7.below hb t7.lt; replace E5 := E5.below hb; replace E6 := E6.below hb; replace E7 := E7.below hb; replace E8 := E8.below hb; replace E9 := E9.below hb; replace E10 := E10.below hb; replace E11 := E11.below hb; replace E12 := E12.below hb; clear hb)
      | (go_at_call 32; (with_reducible refine (HSG2.out _ X).mono ?_); rintro e wa ⟨rfl, hb⟩; replace t1 := t1.below hb t1.lt; replace t2 := t2.below hb t2.lt; replace bel := bel.trans (hb.mono bel.size); replace X := X.below hb; replace Y := Y.below hb; replace t5 := t5.below hb t5.lt; replace t7 := t7.below hb t7.lt; replace E5 := E5.below hb; replace E6 := E6.below hb; replace E7 := E7.below hb; replace E8 := E8.below hb; replace E9 := E9.below hb; replace E10 := E10.below hb; replace E11 := E11.below hb; replace E12 := E12.below hb; clear hb))
  go_wp2_with fail
  go_ret
  exact ⟨rfl, bel⟩
end Go.Proofs.YtpfaddgcfacgdaaGreatDoor
/- Walks of package rational: RationalArithmetic, the law. -/
namespace Go.Proofs.YtpfaddgcfacgdaaGreatDoor
open Go.RowKit
set_option linter.unusedVariables false

set_option maxRecDepth 100000 in
set_option maxHeartbeats 1500000 in
theorem arithmetic_few1 (p1 : Bool) (A1 : Option Addr) (l1 : List Nat) (c1 : Nat) (q1 : Bool) (B1 : Option Addr) (m1 : List Nat) (d1 : Nat) (p2 : Bool) (A2 : Option Addr) (l2 : List Nat) (c2 : Nat) (q2 : Bool) (B2 : Option Addr) (m2 : List Nat) (d2 : Nat) (w : World) (ht : Tabs w) (mx : Mx w) (f1 : decide (l1.length ≤ 4 ∧ m1.length ≤ 4) = false) :
    Calls Tryz.prog 6 #[ratV p1 A1 l1.length c1 q1 B1 m1.length d1, ratV p2 A2 l2.length c2 q2 B2 m2.length d2] w fun e w' => e = .returned (.bool true) ∧ Below w.heap.size w w' := by
  have HF1 := Lib.hid (fun (W : World) => gfew p1 A1 c1 l1.length q1 B1 d1 m1.length false (Lib.hid f1) W)
  clear f1
  unfold ratV
  go_enter Tryz.func6, Tryz.ntmps6
  go_wp2_with fail
  have t1 : Four ((w.alloc (.cells #[.bool p1, .slice A1 l1.length c1, .bool q1, .slice B1 m1.length d1] 26)).alloc (.cells #[.bool p2, .slice A2 l2.length c2, .bool q2, .slice B2 m2.length d2] 26)) w.heap.size (.bool p1) (.slice A1 l1.length c1) (.bool q1) (.slice B1 m1.length d1) := (Four.new_ w (.bool p1) (.slice A1 l1.length c1) (.bool q1) (.slice B1 m1.length d1) 26).alloc _
  have t2 : Four ((w.alloc (.cells #[.bool p1, .slice A1 l1.length c1, .bool q1, .slice B1 m1.length d1] 26)).alloc (.cells #[.bool p2, .slice A2 l2.length c2, .bool q2, .slice B2 m2.length d2] 26)) (w.heap.size + 1) (.bool p2) (.slice A2 l2.length c2) (.bool q2) (.slice B2 m2.length d2) := by simpa only [World.size_alloc, Nat.add_assoc, Nat.reduceAdd] using Four.new_ (w.alloc (.cells #[.bool p1, .slice A1 l1.length c1, .bool q1, .slice B1 m1.length d1] 26)) (.bool p2) (.slice A2 l2.length c2) (.bool q2) (.slice B2 m2.length d2) 26
  have bel : Below w.heap.size w ((w.alloc (.cells #[.bool p1, .slice A1 l1.length c1, .bool q1, .slice B1 m1.length d1] 26)).alloc (.cells #[.bool p2, .slice A2 l2.length c2, .bool q2, .slice B2 m2.length d2] 26)) := ((Below.refl _ _).alloc (Nat.le_refl _) _).alloc (by simp only [World.size_alloc]; omega) _
  generalize ((w.alloc (.cells #[.bool p1, .slice A1 l1.length c1, .bool q1, .slice B1 m1.length d1] 26)).alloc (.cells #[.bool p2, .slice A2 l2.length c2, .bool q2, .slice B2 m2.length d2] 26)) = wx at t1 t2 bel ⊢
  refine (rknown_ok _ (ht.below bel) (mx.below_ bel)).mono ?_
  rintro e w2 ⟨rfl, hb⟩
  replace t1 := t1.below hb t1.lt
  replace t2 := t2.below hb t2.lt
  replace bel := bel.trans (hb.mono bel.size)
  clear hb
  have t1_0 := t1.c0
  have t1_1 := t1.c1
  have t1_2 := t1.c2
  have t1_3 := t1.c3
  go_wp2_with fail
  refine (HF1.out _).mono ?_
  rintro e w3 ⟨rfl, hb⟩
  clear t1_0 t1_1 t1_2 t1_3
  replace t1 := t1.below hb t1.lt
  replace t2 := t2.below hb t2.lt
  replace bel := bel.trans (hb.mono bel.size)
  clear hb
  go_wp2_with fail
  go_ret
  exact ⟨rfl, bel⟩

set_option maxRecDepth 100000 in
set_option maxHeartbeats 1500000 in
theorem arithmetic_few2 (p1 : Bool) (A1 : Option Addr) (l1 : List Nat) (c1 : Nat) (q1 : Bool) (B1 : Option Addr) (m1 : List Nat) (d1 : Nat) (p2 : Bool) (A2 : Option Addr) (l2 : List Nat) (c2 : Nat) (q2 : Bool) (B2 : Option Addr) (m2 : List Nat) (d2 : Nat) (w : World) (ht : Tabs w) (mx : Mx w) (f1 : decide (l1.length ≤ 4 ∧ m1.length ≤ 4) = true) (f2 : decide (l2.length ≤ 4 ∧ m2.length ≤ 4) = false) :
    Calls Tryz.prog 6 #[ratV p1 A1 l1.length c1 q1 B1 m1.length d1, ratV p2 A2 l2.length c2 q2 B2 m2.length d2] w fun e w' => e = .returned (.bool true) ∧ Below w.heap.size w w' := by
  have HF1 := Lib.hid (fun (W : World) => gfew p1 A1 c1 l1.length q1 B1 d1 m1.length true (Lib.hid f1) W)
  have HF2 := Lib.hid (fun (W : World) => gfew p2 A2 c2 l2.length q2 B2 d2 m2.length false (Lib.hid f2) W)
  clear f1 f2
  unfold ratV
  go_enter Tryz.func6, Tryz.ntmps6
  go_wp2_with fail
  have t1 : Four ((w.alloc (.cells #[.bool p1, .slice A1 l1.length c1, .bool q1, .slice B1 m1.length d1] 26)).alloc (.cells #[.bool p2, .slice A2 l2.length c2, .bool q2, .slice B2 m2.length d2] 26)) w.heap.size (.bool p1) (.slice A1 l1.length c1) (.bool q1) (.slice B1 m1.length d1) := (Four.new_ w (.bool p1) (.slice A1 l1.length c1) (.bool q1) (.slice B1 m1.length d1) 26).alloc _
  have t2 : Four ((w.alloc (.cells #[.bool p1, .slice A1 l1.length c1, .bool q1, .slice B1 m1.length d1] 26)).alloc (.cells #[.bool p2, .slice A2 l2.length c2, .bool q2, .slice B2 m2.length d2] 26)) (w.heap.size + 1) (.bool p2) (.slice A2 l2.length c2) (.bool q2) (.slice B2 m2.length d2) := by simpa only [World.size_alloc, Nat.add_assoc, Nat.reduceAdd] using Four.new_ (w.alloc (.cells #[.bool p1, .slice A1 l1.length c1, .bool q1, .slice B1 m1.length d1] 26)) (.bool p2) (.slice A2 l2.length c2) (.bool q2) (.slice B2 m2.length d2) 26
  have bel : Below w.heap.size w ((w.alloc (.cells #[.bool p1, .slice A1 l1.length c1, .bool q1, .slice B1 m1.length d1] 26)).alloc (.cells #[.bool p2, .slice A2 l2.length c2, .bool q2, .slice B2 m2.length d2] 26)) := ((Below.refl _ _).alloc (Nat.le_refl _) _).alloc (by simp only [World.size_alloc]; omega) _
  generalize ((w.alloc (.cells #[.bool p1, .slice A1 l1.length c1, .bool q1, .slice B1 m1.length d1] 26)).alloc (.cells #[.bool p2, .slice A2 l2.length c2, .bool q2, .slice B2 m2.length d2] 26)) = wx at t1 t2 bel ⊢
  refine (rknown_ok _ (ht.below bel) (mx.below_ bel)).mono ?_
  rintro e w2 ⟨rfl, hb⟩
  replace t1 := t1.below hb t1.lt
  replace t2 := t2.below hb t2.lt
  replace bel := bel.trans (hb.mono bel.size)
  clear hb
  have t1_0 := t1.c0
  have t1_1 := t1.c1
  have t1_2 := t1.c2
  have t1_3 := t1.c3
  go_wp2_with fail
  refine (HF1.out _).mono ?_
  rintro e w3 ⟨rfl, hb⟩
  clear t1_0 t1_1 t1_2 t1_3
  replace t1 := t1.below hb t1.lt
  replace t2 := t2.below hb t2.lt
  replace bel := bel.trans (hb.mono bel.size)
  clear hb
  have t2_0 := t2.c0
  have t2_1 := t2.c1
  have t2_2 := t2.c2
  have t2_3 := t2.c3
  go_wp2_with fail
  refine (HF2.out _).mono ?_
  rintro e w4 ⟨rfl, hb⟩
  clear t2_0 t2_1 t2_2 t2_3
  replace t1 := t1.below hb t1.lt
  replace t2 := t2.below hb t2.lt
  replace bel := bel.trans (hb.mono bel.size)
  clear hb
  go_wp2_with fail
  go_ret
  exact ⟨rfl, bel⟩

theorem arithmetic_main (p1 : Bool) (A1 : Option Addr) (l1 : List Nat) (c1 : Nat) (q1 : Bool) (B1 : Option Addr) (m1 : List Nat) (d1 : Nat) (p2 : Bool) (A2 : Option Addr) (l2 : List Nat) (c2 : Nat) (q2 : Bool) (B2 : Option Addr) (m2 : List Nat) (d2 : Nat) {z1 z2 : Rat} (w : World) (h1 : Rv w p1 A1 c1 l1 q1 B1 d1 m1 z1 4) (h2 : Rv w p2 A2 c2 l2 q2 B2 d2 m2 z2 4) (ht : Tabs w) (mx : Mx w) (f1 : decide (l1.length ≤ 4 ∧ m1.length ≤ 4) = true) (f2 : decide (l2.length ≤ 4 ∧ m2.length ≤ 4) = true) :
    Calls Tryz.prog 6 #[ratV p1 A1 l1.length c1 q1 B1 m1.length d1, ratV p2 A2 l2.length c2 q2 B2 m2.length d2] w fun e w' => e = .returned (.bool true) ∧ Below w.heap.size w w' := by
  by_cases h0 : z2 = 0
  · exact arithmetic_zero p1 A1 l1 c1 q1 B1 m1 d1 p2 A2 l2 c2 q2 B2 m2 d2 w h1 h2 ht mx f1 f2 h0
  · exact arithmetic_ok p1 A1 l1 c1 q1 B1 m1 d1 p2 A2 l2 c2 q2 B2 m2 d2 w h1 h2 ht mx f1 f2 h0
theorem arithmetic_walk (p1 : Bool) (A1 : Option Addr) (c1 : Nat) (l1 : List Nat) (q1 : Bool) (B1 : Option Addr) (d1 : Nat) (m1 : List Nat) (p2 : Bool) (A2 : Option Addr) (c2 : Nat) (l2 : List Nat) (q2 : Bool) (B2 : Option Addr) (d2 : Nat) (m2 : List Nat) (w : World) (h1 : Sl w w.heap.size A1 c1 l1) (k1 : Sl w w.heap.size B1 d1 m1) (h2 : Sl w w.heap.size A2 c2 l2) (k2 : Sl w w.heap.size B2 d2 m2) (ht : Tabs w) (mx : Mx w) :
    Calls Tryz.prog 6 #[ratV p1 A1 l1.length c1 q1 B1 m1.length d1, ratV p2 A2 l2.length c2 q2 B2 m2.length d2] w fun e w' => e = .returned (.bool true) ∧ Below w.heap.size w w' := by
  cases f1 : decide (l1.length ≤ 4 ∧ m1.length ≤ 4) with
  | false => exact arithmetic_few1 p1 A1 l1 c1 q1 B1 m1 d1 p2 A2 l2 c2 q2 B2 m2 d2 w ht mx f1
  | true =>
    cases f2 : decide (l2.length ≤ 4 ∧ m2.length ≤ 4) with
    | false => exact arithmetic_few2 p1 A1 l1 c1 q1 B1 m1 d1 p2 A2 l2 c2 q2 B2 m2 d2 w ht mx f1 f2
    | true =>
      have r1 : Rv w p1 A1 c1 l1 q1 B1 d1 m1 _ 4 := ⟨_, _, ⟨h1, rfl, (of_decide_eq_true f1).1⟩, ⟨k1, rfl, (of_decide_eq_true f1).2⟩, rfl⟩
      have r2 : Rv w p2 A2 c2 l2 q2 B2 d2 m2 _ 4 := ⟨_, _, ⟨h2, rfl, (of_decide_eq_true f2).1⟩, ⟨k2, rfl, (of_decide_eq_true f2).2⟩, rfl⟩
      exact arithmetic_main p1 A1 l1 c1 q1 B1 m1 d1 p2 A2 l2 c2 q2 B2 m2 d2 w r1 r2 ht mx f1 f2
end Go.Proofs.YtpfaddgcfacgdaaGreatDoor
/- Walks of package rational: Compare of the reference. -/
namespace Go.Proofs.YtpfaddgcfacgdaaGreatDoor
open Go.RowKit
set_option linter.unusedVariables false

set_option maxRecDepth 100000 in
set_option maxHeartbeats 1500000 in
theorem rrcmp {p1 : Bool} {A1 : Option Addr} {c1 : Nat} {l1 : List Nat} {q1 : Bool} {B1 : Option Addr} {d1 : Nat} {m1 : List Nat} {z1 : Rat} {p2 : Bool} {A2 : Option Addr} {c2 : Nat} {l2 : List Nat} {q2 : Bool} {B2 : Option Addr} {d2 : Nat} {m2 : List Nat} {z2 : Rat} {n k : Nat} {w : World} (h1 : Rv w p1 A1 c1 l1 q1 B1 d1 m1 z1 n) (h2 : Rv w p2 A2 c2 l2 q2 B2 d2 m2 z2 k) (hn : n ≤ 40) (hn1 : 1 ≤ n) (hk : k ≤ 40) (hk1 : 1 ≤ k) :
    Calls Tryz.prog 34 #[ratV p1 A1 l1.length c1 q1 B1 m1.length d1, ratV p2 A2 l2.length c2 q2 B2 m2.length d2] w fun e w' => e = .returned (.int .i64 (z1 - z2).num.sign) ∧ Below w.heap.size w w' := by
  obtain ⟨z, hz⟩ : ∃ z, z = z1 - z2 := ⟨_, rfl⟩
  rw [← hz]
  have HSB := Lib.hid (fun (W : World) (h : Rv W p1 A1 c1 l1 q1 B1 d1 m1 z1 n) (h' : Rv W p2 A2 c2 l2 q2 B2 d2 m2 z2 k) => (by have h := rrsub h h' hn hn1 hk hk1; rw [← hz] at h; exact h : Calls Tryz.prog 26 #[.agg #[.bool p1, .slice A1 l1.length c1, .bool q1, .slice B1 m1.length d1], .agg #[.bool p2, .slice A2 l2.length c2, .bool q2, .slice B2 m2.length d2]] W (GR z (n + k + 1) W)))
  have HSG := Lib.hid (fun (W : World) (A : Option Addr) (c : Nat) (l : List Nat) (Bb : Option Addr) (d : Nat) (m : List Nat) (h : Cr W A c l Bb d m z (n + k + 1)) => (rrsgn h.rv (by omega) (by omega) : Calls Tryz.prog 32 #[.agg #[.bool (decide (z.num < 0)), .slice A l.length c, .bool false, .slice Bb m.length d]] W fun e w' => e = .returned (.int .i64 z.num.sign) ∧ Below W.heap.size W w'))
  clear hz hn hn1 hk hk1
  unfold ratV
  go_enter Tryz.func34, Tryz.ntmps34
  go_wp2_with fail
  have t1 : Four ((w.alloc (.cells #[.bool p1, .slice A1 l1.length c1, .bool q1, .slice B1 m1.length d1] 26)).alloc (.cells #[.bool p2, .slice A2 l2.length c2, .bool q2, .slice B2 m2.length d2] 26)) w.heap.size (.bool p1) (.slice A1 l1.length c1) (.bool q1) (.slice B1 m1.length d1) := (Four.new_ w (.bool p1) (.slice A1 l1.length c1) (.bool q1) (.slice B1 m1.length d1) 26).alloc _
  have t2 : Four ((w.alloc (.cells #[.bool p1, .slice A1 l1.length c1, .bool q1, .slice B1 m1.length d1] 26)).alloc (.cells #[.bool p2, .slice A2 l2.length c2, .bool q2, .slice B2 m2.length d2] 26)) (w.heap.size + 1) (.bool p2) (.slice A2 l2.length c2) (.bool q2) (.slice B2 m2.length d2) := by simpa only [World.size_alloc, Nat.add_assoc, Nat.reduceAdd] using Four.new_ (w.alloc (.cells #[.bool p1, .slice A1 l1.length c1, .bool q1, .slice B1 m1.length d1] 26)) (.bool p2) (.slice A2 l2.length c2) (.bool q2) (.slice B2 m2.length d2) 26
  have bel : Below w.heap.size w ((w.alloc (.cells #[.bool p1, .slice A1 l1.length c1, .bool q1, .slice B1 m1.length d1] 26)).alloc (.cells #[.bool p2, .slice A2 l2.length c2, .bool q2, .slice B2 m2.length d2] 26)) := ((Below.refl _ _).alloc (Nat.le_refl _) _).alloc (by simp only [World.size_alloc]; omega) _
  generalize ((w.alloc (.cells #[.bool p1, .slice A1 l1.length c1, .bool q1, .slice B1 m1.length d1] 26)).alloc (.cells #[.bool p2, .slice A2 l2.length c2, .bool q2, .slice B2 m2.length d2] 26)) = wx at t1 t2 bel ⊢
  have X := h1.below bel
  have Y := h2.below bel
  have t1_0 := t1.c0
  have t1_1 := t1.c1
  have t1_2 := t1.c2
  have t1_3 := t1.c3
  have t2_0 := t2.c0
  have t2_1 := t2.c1
  have t2_2 := t2.c2
  have t2_3 := t2.c3
  go_wp2_with fail
  refine (HSB.out _ X Y).mono ?_
  rintro e w2 ⟨A7, c7, l7, B7, d7, m7, rfl, E7, hb⟩
  clear t1_0 t1_1 t1_2 t1_3 t2_0 t2_1 t2_2 t2_3
  replace t1 := t1.below hb t1.lt
  replace t2 := t2.below hb t2.lt
  replace bel := bel.trans (hb.mono bel.size)
  clear hb
  clear X Y
  go_wp2_with fail
  refine (HSG.out _ _ _ _ _ _ _ E7).mono ?_
  rintro e w3 ⟨rfl, hb⟩
  replace t1 := t1.below hb t1.lt
  replace t2 := t2.below hb t2.lt
  replace bel := bel.trans (hb.mono bel.size)
  replace E7 := E7.below hb
  clear hb
  go_wp2_with fail
  go_ret
  exact ⟨rfl, bel⟩
end Go.Proofs.YtpfaddgcfacgdaaGreatDoor
