/- My texts, packed: N5b, N7b, Q5, LawFloor. -/
import Derived.Test.YtpfaddgcfacgdaaGreatDoorPr1
import Derived.Test.YtpfaddgcfacgdaaGreatDoorPm2
import Derived.Test.YtpfaddgcfacgdaaGreatDoorPk14
import Derived.Test.YtpfaddgcfacgdaaGreatDoorPk16
/- Walks of package rational: Sub of the reference. -/
namespace Go.Proofs.YtpfaddgcfacgdaaGreatDoor
open Go.RowKit
set_option linter.unusedVariables false

set_option maxRecDepth 100000 in
set_option maxHeartbeats 2000000 in
theorem rrsub45 {p1 : Bool} {A1 : Option Addr} {c1 : Nat} {l1 : List Nat} {q1 : Bool} {B1 : Option Addr} {d1 : Nat} {m1 : List Nat} {z1 : Rat} {p2 : Bool} {A2 : Option Addr} {c2 : Nat} {l2 : List Nat} {q2 : Bool} {B2 : Option Addr} {d2 : Nat} {m2 : List Nat} {z2 : Rat} {n k : Nat} {w : World} (h1 : Rv w p1 A1 c1 l1 q1 B1 d1 m1 z1 n) (h2 : Rv w p2 A2 c2 l2 q2 B2 d2 m2 z2 k) (hn : n ≤ 45) (hn1 : 1 ≤ n) (hk : k ≤ 45) (hk1 : 1 ≤ k) :
    Calls Tryz.prog 26 #[ratV p1 A1 l1.length c1 q1 B1 m1.length d1, ratV p2 A2 l2.length c2 q2 B2 m2.length d2] w (GR (z1 - z2) (n + k + 1) w) := by
  obtain ⟨z, hz⟩ : ∃ z, z = z1 - z2 := ⟨_, rfl⟩
  rw [← hz]
  have HNG := Lib.hid (fun (W : World) (h : Rv W p2 A2 c2 l2 q2 B2 d2 m2 z2 k) => (rrneg h (by omega) hk1 : Calls Tryz.prog 30 #[.agg #[.bool p2, .slice A2 l2.length c2, .bool q2, .slice B2 m2.length d2]] W (GR (-z2) k W)))
  have HAD := Lib.hid (fun (W : World) (A : Option Addr) (c : Nat) (l : List Nat) (Bb : Option Addr) (d : Nat) (m : List Nat) (h : Rv W p1 A1 c1 l1 q1 B1 d1 m1 z1 n) (h' : Cr W A c l Bb d m (-z2) k) => (by have h := rradd45 h h'.rv hn hn1 hk hk1; rw [← Rat.sub_eq_add_neg, ← hz] at h; exact h : Calls Tryz.prog 24 #[.agg #[.bool p1, .slice A1 l1.length c1, .bool q1, .slice B1 m1.length d1], .agg #[.bool (decide ((-z2).num < 0)), .slice A l.length c, .bool false, .slice Bb m.length d]] W (GR z (n + k + 1) W)))
  obtain ⟨zn, hzn⟩ : ∃ y, y = -z2 := ⟨_, rfl⟩
  rw [← hzn] at HNG HAD
  clear hzn hz hn hn1 hk hk1
  unfold ratV
  go_enter Tryz.func26, Tryz.ntmps26
  go_wp2_with fail
  have t1 : Four (((w.alloc (.cells #[.bool p1, .slice A1 l1.length c1, .bool q1, .slice B1 m1.length d1] 26)).alloc (.cells #[.bool p2, .slice A2 l2.length c2, .bool q2, .slice B2 m2.length d2] 26)).alloc (.cells #[.bool false, .slice none 0 0, .bool false, .slice none 0 0] 26)) w.heap.size (.bool p1) (.slice A1 l1.length c1) (.bool q1) (.slice B1 m1.length d1) := ((Four.new_ w (.bool p1) (.slice A1 l1.length c1) (.bool q1) (.slice B1 m1.length d1) 26).alloc _).alloc _
  have t2 : Four (((w.alloc (.cells #[.bool p1, .slice A1 l1.length c1, .bool q1, .slice B1 m1.length d1] 26)).alloc (.cells #[.bool p2, .slice A2 l2.length c2, .bool q2, .slice B2 m2.length d2] 26)).alloc (.cells #[.bool false, .slice none 0 0, .bool false, .slice none 0 0] 26)) (w.heap.size + 1) (.bool p2) (.slice A2 l2.length c2) (.bool q2) (.slice B2 m2.length d2) := by simpa only [World.size_alloc, Nat.add_assoc, Nat.reduceAdd] using (Four.new_ (w.alloc (.cells #[.bool p1, .slice A1 l1.length c1, .bool q1, .slice B1 m1.length d1] 26)) (.bool p2) (.slice A2 l2.length c2) (.bool q2) (.slice B2 m2.length d2) 26).alloc _
  have t3 : Four (((w.alloc (.cells #[.bool p1, .slice A1 l1.length c1, .bool q1, .slice B1 m1.length d1] 26)).alloc (.cells #[.bool p2, .slice A2 l2.length c2, .bool q2, .slice B2 m2.length d2] 26)).alloc (.cells #[.bool false, .slice none 0 0, .bool false, .slice none 0 0] 26)) (w.heap.size + 2) (.bool false) (.slice none 0 0) (.bool false) (.slice none 0 0) := by simpa only [World.size_alloc, Nat.add_assoc, Nat.reduceAdd] using Four.new_ ((w.alloc (.cells #[.bool p1, .slice A1 l1.length c1, .bool q1, .slice B1 m1.length d1] 26)).alloc (.cells #[.bool p2, .slice A2 l2.length c2, .bool q2, .slice B2 m2.length d2] 26)) (.bool false) (.slice none 0 0) (.bool false) (.slice none 0 0) 26
  have bel : Below w.heap.size w (((w.alloc (.cells #[.bool p1, .slice A1 l1.length c1, .bool q1, .slice B1 m1.length d1] 26)).alloc (.cells #[.bool p2, .slice A2 l2.length c2, .bool q2, .slice B2 m2.length d2] 26)).alloc (.cells #[.bool false, .slice none 0 0, .bool false, .slice none 0 0] 26)) := (((Below.refl _ _).alloc (Nat.le_refl _) _).alloc (by simp only [World.size_alloc]; omega) _).alloc (by simp only [World.size_alloc]; omega) _
  generalize (((w.alloc (.cells #[.bool p1, .slice A1 l1.length c1, .bool q1, .slice B1 m1.length d1] 26)).alloc (.cells #[.bool p2, .slice A2 l2.length c2, .bool q2, .slice B2 m2.length d2] 26)).alloc (.cells #[.bool false, .slice none 0 0, .bool false, .slice none 0 0] 26)) = wx at t1 t2 t3 bel ⊢
  have X := h1.below bel
  have Y := h2.below bel
  replace t1 := t1.drew
  replace t2 := t2.drew
  replace t3 := t3.drew
  replace bel := bDrew1 bel
  replace X := X.drew
  replace Y := Y.drew
  go_region_held3 (fun w' => w'.cell? ⟨w.heap.size, 0, none⟩ = some (.bool p1) ∧ w'.cell? ⟨w.heap.size, 1, none⟩ = some (.slice A1 l1.length c1) ∧ w'.cell? ⟨w.heap.size, 2, none⟩ = some (.bool q1) ∧ w'.cell? ⟨w.heap.size, 3, none⟩ = some (.slice B1 m1.length d1) ∧ w'.cell? ⟨w.heap.size + 1, 0, none⟩ = some (.bool p2) ∧ w'.cell? ⟨w.heap.size + 1, 1, none⟩ = some (.slice A2 l2.length c2) ∧ w'.cell? ⟨w.heap.size + 1, 2, none⟩ = some (.bool q2) ∧ w'.cell? ⟨w.heap.size + 1, 3, none⟩ = some (.slice B2 m2.length d2))
    (first | with_reducible exact ⟨t1.c0, t1.c1, t1.c2, t1.c3, t2.c0, t2.c1, t2.c2, t2.c3⟩ | exact ⟨K0.out.c0, K0.out.c1, K0.out.c2, K0.out.c3, K1.out.c0, K1.out.c1, K1.out.c2, K1.out.c3⟩)
    (first
      | (go_at_call 30; (with_reducible refine (HNG.out _ Y).mono ?_); rintro e wa ⟨A7, c7, l7, B7, d7, m7, rfl, E7, hb⟩; replace t1 := t1.below hb t1.lt; replace t2 := t2.below hb t2.lt; replace t3 := t3.below hb t3.lt; replace bel := bel.trans (hb.mono bel.size); replace X := X.below hb; replace Y := Y.below hb; clear hb)
      | (go_at_call 24; (with_reducible refine (HAD.out _ _ _ _ _ _ _ X E7).mono ?_); rintro e wa ⟨A9, c9, l9, B9, d9, m9, rfl, CC, hb⟩; replace t1 := t1.below hb t1.lt; replace t2 := t2.below hb t2.lt; replace t3 := t3.below hb t3.lt; replace bel := bel.trans (hb.mono bel.size); replace X := X.below hb; replace Y := Y.below hb; clear hb
         have e0 := t3.c0
         have f0 := t3.fr 0
         have e1 := t3.c1
         have f1 := t3.fr 1
         have e2 := t3.c2
         have f2 := t3.fr 2
         have e3 := t3.c3
         have f3 := t3.fr 3
         have K0 := Lib.hid (t1.far4 (g := w.heap.size + 2) (by omega) (.bool (decide (z.num < 0))) (.slice A9 l9.length c9) (.bool false) (.slice B9 m9.length d9))
         have K1 := Lib.hid (t2.far4 (g := w.heap.size + 2) (by omega) (.bool (decide (z.num < 0))) (.slice A9 l9.length c9) (.bool false) (.slice B9 m9.length d9))
         have R := Lib.hid (t3.put (.bool (decide (z.num < 0))) (.slice A9 l9.length c9) (.bool false) (.slice B9 m9.length d9))
         have CR := Lib.hid (CC.put4 t3 (.bool (decide (z.num < 0))) (.slice A9 l9.length c9) (.bool false) (.slice B9 m9.length d9))
         have BL := Lib.hid (below_set4 bel (b := w.heap.size + 2) (by omega) (.bool (decide (z.num < 0))) (.slice A9 l9.length c9) (.bool false) (.slice B9 m9.length d9))))
  go_wp2_with fail
  have r0 := R.out.c0
  have r1 := R.out.c1
  have r2 := R.out.c2
  have r3 := R.out.c3
  unfold set4 at r0 r1 r2 r3
  refine bodyPost_ret (v := .agg #[.bool (decide (z.num < 0)), .slice A9 l9.length c9, .bool false, .slice B9 m9.length d9]) (by simp [results, Tryz.results26, go_sem, r0, r1, r2, r3]) rfl ?_
  exact ⟨A9, c9, l9, B9, d9, m9, rfl, CR.out, BL.out⟩
end Go.Proofs.YtpfaddgcfacgdaaGreatDoor
/- Walks of package rational: Compare of the reference. -/
namespace Go.Proofs.YtpfaddgcfacgdaaGreatDoor
open Go.RowKit
set_option linter.unusedVariables false

set_option maxRecDepth 100000 in
set_option maxHeartbeats 1500000 in
theorem rrcmp45 {p1 : Bool} {A1 : Option Addr} {c1 : Nat} {l1 : List Nat} {q1 : Bool} {B1 : Option Addr} {d1 : Nat} {m1 : List Nat} {z1 : Rat} {p2 : Bool} {A2 : Option Addr} {c2 : Nat} {l2 : List Nat} {q2 : Bool} {B2 : Option Addr} {d2 : Nat} {m2 : List Nat} {z2 : Rat} {n k : Nat} {w : World} (h1 : Rv w p1 A1 c1 l1 q1 B1 d1 m1 z1 n) (h2 : Rv w p2 A2 c2 l2 q2 B2 d2 m2 z2 k) (hn : n ≤ 45) (hn1 : 1 ≤ n) (hk : k ≤ 45) (hk1 : 1 ≤ k) :
    Calls Tryz.prog 34 #[ratV p1 A1 l1.length c1 q1 B1 m1.length d1, ratV p2 A2 l2.length c2 q2 B2 m2.length d2] w fun e w' => e = .returned (.int .i64 (z1 - z2).num.sign) ∧ Below w.heap.size w w' := by
  obtain ⟨z, hz⟩ : ∃ z, z = z1 - z2 := ⟨_, rfl⟩
  rw [← hz]
  have HSB := Lib.hid (fun (W : World) (h : Rv W p1 A1 c1 l1 q1 B1 d1 m1 z1 n) (h' : Rv W p2 A2 c2 l2 q2 B2 d2 m2 z2 k) => (by have h := rrsub45 h h' hn hn1 hk hk1; rw [← hz] at h; exact h : Calls Tryz.prog 26 #[.agg #[.bool p1, .slice A1 l1.length c1, .bool q1, .slice B1 m1.length d1], .agg #[.bool p2, .slice A2 l2.length c2, .bool q2, .slice B2 m2.length d2]] W (GR z (n + k + 1) W)))
  have HSG := Lib.hid (fun (W : World) (A : Option Addr) (c : Nat) (l : List Nat) (Bb : Option Addr) (d : Nat) (m : List Nat) (h : Cr W A c l Bb d m z (n + k + 1)) => (rrsgn h.rv (by omega) (by omega) : Calls Tryz.prog 32 #[.agg #[.bool (decide (z.num < 0)), .slice A l.length c, .bool false, .slice Bb m.length d]] W fun e w' => e = .returned (.int .i64 z.num.sign) ∧ Below W.heap.size W w'))
  clear hz hn hn1 hk hk1
  unfold ratV
  go_enter Tryz.func34, Tryz.ntmps34
  go_wp2_with fail
  have t1 : Four ((w.alloc (.cells #[.bool p1, .slice A1 l1.length c1, .bool q1, .slice B1 m1.length d1] 26)).alloc (.cells #[.bool p2, .slice A2 l2.length c2, .bool q2, .slice B2 m2.length d2] 26)) w.heap.size (.bool p1) (.slice A1 l1.length c1) (.bool q1) (.slice B1 m1.length d1) := (Four.new_ w (.bool p1) (.slice A1 l1.length c1) (.bool q1) (.slice B1 m1.length d1) 26).alloc _
  have t2 : Four ((w.alloc (.cells #[.bool p1, .slice A1 l1.length c1, .bool q1, .slice B1 m1.length d1] 26)).alloc (.cells #[.bool p2, .slice A2 l2.length c2, .bool q2, .slice B2 m2.length d2] 26)) (w.heap.size + 1) (.bool p2) (.slice A2 l2.length c2) (.bool q2) (.slice B2 m2.length d2) := by simpa only [World.size_alloc, Nat.add_assoc, Nat.reduceAdd] using Four.new_ (w.alloc (.cells #[.bool p1, .slice A1 l1.length c1, .bool q1, .slice B1 m1.length d1] 26)) (.bool p2) (.slice A2 l2.length c2) (.bool q2) (.slice B2 m2.length d2) 26
  have bel : Below w.heap.size w ((w.alloc (.cells #[.bool p1, .slice A1 l1.length c1, .bool q1, .slice B1 m1.length d1] 26)).alloc (.cells #[.bool p2, .slice A2 l2.length c2, .bool q2, .slice B2 m2.length d2] 26)) := ((Below.refl _ _).alloc (Nat.le_refl _) _).alloc (by simp only [World.size_alloc]; omega) _
  generalize ((w.alloc (.cells #[.bool p1, .slice A1 l1.length c1, .bool q1, .slice B1 m1.length d1] 26)).alloc (.cells #[.bool p2, .slice A2 l2.length c2, .bool q2, .slice B2 m2.length d2] 26)) = wx at t1 t2 bel ⊢
  have X := h1.below bel
  have Y := h2.below bel
  have t1_0 := t1.c0
  have t1_1 := t1.c1
  have t1_2 := t1.c2
  have t1_3 := t1.c3
  have t2_0 := t2.c0
  have t2_1 := t2.c1
  have t2_2 := t2.c2
  have t2_3 := t2.c3
  go_wp2_with fail
  refine (HSB.out _ X Y).mono ?_
  rintro e w2 ⟨A7, c7, l7, B7, d7, m7, rfl, E7, hb⟩
  clear t1_0 t1_1 t1_2 t1_3 t2_0 t2_1 t2_2 t2_3
  replace t1 := t1.below hb t1.lt
  replace t2 := t2.below hb t2.lt
  replace bel := bel.trans (hb.mono bel.size)
  clear hb
  clear X Y
  go_wp2_with fail
  refine (HSG.out _ _ _ _ _ _ _ E7).mono ?_
  rintro e w3 ⟨rfl, hb⟩
  replace t1 := t1.below hb t1.lt
  replace t2 := t2.below hb t2.lt
  replace bel := bel.trans (hb.mono bel.size)
  replace E7 := E7.below hb
  clear hb
  go_wp2_with fail
  go_ret
  exact ⟨rfl, bel⟩
end Go.Proofs.YtpfaddgcfacgdaaGreatDoor
/- Walks of package rational: RationalFloor. -/
namespace Go.Proofs.YtpfaddgcfacgdaaGreatDoor
open Go.RowKit
set_option linter.unusedVariables false

set_option maxRecDepth 100000 in
set_option maxHeartbeats 3000000 in
theorem floor_main (A : Option Addr) (c : Nat) (l : List Fr) (w : World) (hL : Fr.L w A l) (hn : l.length ≤ 8) (ht : Tabs w) (mx : Mx w) :
    Calls Tryz.prog 9 #[.slice A l.length c] w fun e w' => e = .returned (.bool true) ∧ Below w.heap.size w w' := by
  have c1 : decide (8 < (l.length : Int)) = false := decide_eq_false (by omega)
  have HL := Lib.hid hL
  have HN := Lib.hid hn
  obtain ⟨s, hs⟩ : ∃ s, Hid (Fr.sumQ l = s) := ⟨_, Lib.hid rfl⟩
  obtain ⟨o, ho⟩ : ∃ o : Rat, Hid (Rat.divInt 1 1 = o) := ⟨_, Lib.hid rfl⟩
  obtain ⟨N, hN⟩ : ∃ N : Int, Hid (rqfl s = N) := ⟨_, Lib.hid rfl⟩
  obtain ⟨zn, hzn⟩ : ∃ z : Rat, Hid (Rat.divInt N o.num = z) := ⟨_, Lib.hid rfl⟩
  have on : Hid (o.num = 1) := Lib.hid (by rw [← ho.out]; decide)
  have HP1 := Lib.hid (fun (W : World) (h : Fr.L w A l) (b : Below w.heap.size w W) (hf : ∀ f ∈ l, f.few) => (by have h := psum A c l W (h.below b) HN.out hf; rw [hs.out] at h; exact h : Calls Tryz.prog 35 #[.slice A l.length c] W (GR s 42 W)))
  have HP2 := Lib.hid (fun (W : World) (h : Fr.L w A l) (b : Below w.heap.size w W) (hf : ∀ f ∈ l, f.few) => (by have h := rrsum A c l W (h.below b) HN.out hf; rw [hs.out] at h; exact h : Calls Tryz.prog 36 #[.slice A l.length c] W (GR s 41 W)))
  have HOF : Hid (∀ W, Calls Tryz.prog 20 #[.int .i64 1, .int .i64 1] W (GRc o 2 W)) := Lib.hid (fun W => by have h := grofr (a := 1) (b := 1) (by decide) (by decide) (by decide) W; rw [ho.out] at h; exact h)
  have HFL := Lib.hid (fun (W : World) (A : Option Addr) (c : Nat) (l : List Nat) (Bb : Option Addr) (d : Nat) (m : List Nat) (h : Cr W A c l Bb d m s 42) => (by have h := rfloor h.rv (by decide) (by decide); rw [hN.out] at h; exact h : Calls Tryz.prog 37 #[.agg #[.bool (decide (s.num < 0)), .slice A l.length c, .bool false, .slice Bb m.length d]] W (GI N 42 W)))
  have HNW := Lib.hid (fun (W : World) (p : Bool) (A : Option Addr) (c : Nat) (l : List Nat) (q : Bool) (B : Option Addr) (d : Nat) (m : List Nat) (h : Iv W p A c l N 42) (h' : Iv W q B d m o.num 2) => (by have h := grnew h (h'.more (show 2 ≤ 42 by decide)) (by rw [on.out]; decide) (by decide) (by decide); rw [hzn.out] at h; exact h : Calls Tryz.prog 18 #[.agg #[.bool p, .slice A l.length c], .agg #[.bool q, .slice B m.length d]] W (GRc zn 42 W)))
  obtain ⟨e1, he1⟩ : ∃ e : Int, Hid ((zn - s).num.sign = e) := ⟨_, Lib.hid rfl⟩
  obtain ⟨z9, hz9⟩ : ∃ z : Rat, Hid (zn + o = z) := ⟨_, Lib.hid rfl⟩
  obtain ⟨e2, he2⟩ : ∃ e : Int, Hid ((s - z9).num.sign = e) := ⟨_, Lib.hid rfl⟩
  have HC1 := Lib.hid (fun (W : World) (A : Option Addr) (c : Nat) (l : List Nat) (Bb : Option Addr) (d : Nat) (m : List Nat) (A' : Option Addr) (c' : Nat) (l' : List Nat) (B' : Option Addr) (d' : Nat) (m' : List Nat) (h : Cr W A c l Bb d m zn 42) (h' : Cr W A' c' l' B' d' m' s 42) => (by have h := rrcmp45 h.rv h'.rv (by decide) (by decide) (by decide) (by decide); rw [he1.out] at h; exact h : Calls Tryz.prog 34 #[.agg #[.bool (decide (zn.num < 0)), .slice A l.length c, .bool false, .slice Bb m.length d], .agg #[.bool (decide (s.num < 0)), .slice A' l'.length c', .bool false, .slice B' m'.length d']] W fun e w' => e = .returned (.int .i64 e1) ∧ Below W.heap.size W w'))
  have HA1 := Lib.hid (fun (W : World) (A : Option Addr) (c : Nat) (l : List Nat) (Bb : Option Addr) (d : Nat) (m : List Nat) (A' : Option Addr) (c' : Nat) (l' : List Nat) (B' : Option Addr) (d' : Nat) (m' : List Nat) (h : Cr W A c l Bb d m zn 42) (h' : Cr W A' c' l' B' d' m' o 2) => (by have h := rradd45 h.rv h'.rv (by decide) (by decide) (by decide) (by decide); rw [hz9.out] at h; exact h : Calls Tryz.prog 24 #[.agg #[.bool (decide (zn.num < 0)), .slice A l.length c, .bool false, .slice Bb m.length d], .agg #[.bool (decide (o.num < 0)), .slice A' l'.length c', .bool false, .slice B' m'.length d']] W (GR z9 45 W)))
  have HC2 := Lib.hid (fun (W : World) (A : Option Addr) (c : Nat) (l : List Nat) (Bb : Option Addr) (d : Nat) (m : List Nat) (A' : Option Addr) (c' : Nat) (l' : List Nat) (B' : Option Addr) (d' : Nat) (m' : List Nat) (h : Cr W A c l Bb d m s 42) (h' : Cr W A' c' l' B' d' m' z9 45) => (by have h := rrcmp45 h.rv h'.rv (by decide) (by decide) (by decide) (by decide); rw [he2.out] at h; exact h : Calls Tryz.prog 34 #[.agg #[.bool (decide (s.num < 0)), .slice A l.length c, .bool false, .slice Bb m.length d], .agg #[.bool (decide (z9.num < 0)), .slice A' l'.length c', .bool false, .slice B' m'.length d']] W fun e w' => e = .returned (.int .i64 e2) ∧ Below W.heap.size W w'))
  have hF := floor_facts hs.out ho.out hN.out hzn.out hz9.out
  rw [he1.out, he2.out] at hF
  have q1 : decide (e1 ≤ 0) = true := decide_eq_true hF.1
  have q2 : decide (e2 < 0) = true := decide_eq_true hF.2.1
  have HSM := Lib.hid hF.2.2
  clear hF
  have HS3 := Lib.hid (fun (W : World) (p : Bool) (A : Option Addr) (c : Nat) (l : List Nat) (q : Bool) (B : Option Addr) (d : Nat) (m : List Nat) (A' : Option Addr) (c' : Nat) (l' : List Nat) (B' : Option Addr) (d' : Nat) (m' : List Nat) (h : Cn W p A c l N 42) (h' : Cn W q B d m o.num 2) (hz : Cr W A' c' l' B' d' m' zn 42) => (same_floor h h' hz HSM.out : Calls Tryz.prog 14 #[.agg #[.bool p, .slice A l.length c, .bool q, .slice B m.length d], .agg #[.bool (decide (zn.num < 0)), .slice A' l'.length c', .bool false, .slice B' m'.length d']] W fun e w' => e = .returned (.bool true) ∧ Below W.heap.size W w'))
  clear hL hn
  go_enter Tryz.func9, Tryz.ntmps9
  go_wp2_with fail
  have bel : Below w.heap.size w w := Below.refl _ _
  refine (rknown_ok _ ht mx).mono ?_
  rintro e w2 ⟨rfl, hb⟩
  replace bel := bel.trans (hb.mono bel.size)
  clear hb
  clear ht mx
  go_wp2_with fail
  go_loopw [17] (fun iv wr => ∃ k : Nat, k ≤ l.length ∧ iv = .int .i64 (k : Int) ∧ Hid (∀ f ∈ l.take k, Fr.few f) ∧ Below w.heap.size w wr) (fun iv _ => l.length - (intOf iv).toNat)
  case atStart => exact ⟨0, Nat.zero_le _, rfl, Lib.hid (fun f hf => by simp at hf), bel⟩
  case round =>
    clear bel
    obtain ⟨k, hk, rfl, hfw, bel⟩ := hrel
    by_cases hlt : k < l.length
    · obtain ⟨b, off, p5, A5, c5, l5, q5, B5, d5, m5, rfl, hbl, e0, e1_, e2_, e3, his⟩ := HL.out.at_ bel hlt
      obtain ⟨F, hF⟩ : ∃ F, Hid (decide (l5.length ≤ 4 ∧ m5.length ≤ 4) = F) := ⟨_, Lib.hid rfl⟩
      have HFW := Lib.hid (fun (W : World) => gfew p5 A5 c5 l5.length q5 B5 d5 m5.length F hF W)
      have HK := Lib.hid (show k + 1 ≤ l.length from hlt)
      have hwk : IntKind.i64.wrap ((k : Int) + 1) = ((k + 1 : Nat) : Int) := (IntWalk.i64_in _ (by have := HN.out; omega)).trans (by omega)
      have hkl : (k : Int) < (l.length : Int) := by omega
      have HTK : Hid (F = true → ∀ f ∈ l.take (k + 1), Fr.few f) := Lib.hid (fun hFt f hf => by
        rw [his.take_] at hf
        rcases List.mem_append.1 hf with h | h
        · exact hfw.out f h
        · rw [List.mem_singleton.1 h]; exact (of_decide_eq_true (hF.out.trans hFt) : l5.length ≤ 4 ∧ m5.length ≤ 4))
      clear his hfw
      have hg0 : w.heap.size ≤ wr.heap.size := bel.size
      go_upto_region 8 with (fail)
      clear e0 e1_ e2_ e3
      have x5 : Four (wr.alloc (.cells #[.bool p5, .slice A5 l5.length c5, .bool q5, .slice B5 m5.length d5] 26)) wr.heap.size (.bool p5) (.slice A5 l5.length c5) (.bool q5) (.slice B5 m5.length d5) := Four.new_ wr (.bool p5) (.slice A5 l5.length c5) (.bool q5) (.slice B5 m5.length d5) 26
      have bn : Below wr.heap.size wr (wr.alloc (.cells #[.bool p5, .slice A5 l5.length c5, .bool q5, .slice B5 m5.length d5] 26)) := (Below.refl _ _).alloc (Nat.le_refl _) _
      replace bel := bel.trans (bn.mono bel.size)
      clear bn
      generalize (wr.alloc (.cells #[.bool p5, .slice A5 l5.length c5, .bool q5, .slice B5 m5.length d5] 26)) = v5 at bel x5 ⊢
      generalize wr.heap.size = g5 at bel x5 hg0 ⊢
      have x5_0 := x5.c0
      have x5_1 := x5.c1
      have x5_2 := x5.c2
      have x5_3 := x5.c3
      go_wp2_with fail
      refine (HFW.out _).mono ?_
      rintro e w2 ⟨rfl, hb⟩
      clear x5_0 x5_1 x5_2 x5_3
      replace bel := bel.trans (hb.mono bel.size)
      replace x5 := x5.below hb x5.lt
      clear hb
      clear x5 HFW
      cases F with
      | false =>
        go_wp2_with fail
        go_ret
        exact ⟨rfl, bel⟩
      | true =>
        have HT2 := HTK.out rfl
        replace HT2 := Lib.hid HT2
        go_wp2_with fail
        go_roundw
        case rel => exact ⟨k + 1, HK.out, by first | go_num | rfl, HT2, bel⟩
        case measure => (have := HK.out; first | (simp [intOf]; omega) | (simp [intOf, hwk]; omega))
    · obtain rfl : k = l.length := by omega
      have HFF : Hid (∀ f ∈ l, Fr.few f) := Lib.hid (by have h := hfw.out; rwa [List.take_length] at h)
      clear hfw
      go_wp2_with fail
      refine (HP1.out _ HL.out bel HFF.out).mono ?_
      rintro e w2 ⟨A3, c3, l3, B3, d3, m3, rfl, E3, hb⟩
      replace bel := bel.trans (hb.mono bel.size)
      clear hb
      have hg9 : w.heap.size ≤ w2.heap.size := bel.size
      go_upto_region 12 with (fail)
      have t3 : Four (w2.alloc (.cells #[.bool (decide (s.num < 0)), .slice A3 l3.length c3, .bool false, .slice B3 m3.length d3] 26)) w2.heap.size (.bool (decide (s.num < 0))) (.slice A3 l3.length c3) (.bool false) (.slice B3 m3.length d3) := Four.new_ w2 (.bool (decide (s.num < 0))) (.slice A3 l3.length c3) (.bool false) (.slice B3 m3.length d3) 26
      have bn : Below w2.heap.size w2 (w2.alloc (.cells #[.bool (decide (s.num < 0)), .slice A3 l3.length c3, .bool false, .slice B3 m3.length d3] 26)) := (Below.refl _ _).alloc (Nat.le_refl _) _
      replace bel := bel.trans (bn.mono bel.size)
      replace E3 := E3.below bn
      clear bn
      generalize (w2.alloc (.cells #[.bool (decide (s.num < 0)), .slice A3 l3.length c3, .bool false, .slice B3 m3.length d3] 26)) = v3 at bel E3 t3 ⊢
      generalize w2.heap.size = g3 at bel E3 t3 hg9 ⊢
      replace bel := bDrew1 bel
      replace E3 := E3.drew
      replace t3 := t3.drew
      go_region_held3 (fun w' => w'.cell? ⟨g3, 0, none⟩ = some (.bool (decide (s.num < 0))) ∧ w'.cell? ⟨g3, 1, none⟩ = some (.slice A3 l3.length c3) ∧ w'.cell? ⟨g3, 2, none⟩ = some (.bool false) ∧ w'.cell? ⟨g3, 3, none⟩ = some (.slice B3 m3.length d3))
        (with_reducible exact ⟨t3.c0, t3.c1, t3.c2, t3.c3⟩)
        (first
          | (go_at_call 36; (with_reducible refine (HP2.out _ HL.out bel HFF.out).mono ?_); rintro e wa ⟨A4, c4, l4, B4, d4, m4, rfl, E4, hb⟩; replace bel := bel.trans (hb.mono bel.size); replace E3 := E3.below hb; replace t3 := t3.below hb t3.lt; clear hb)
          | (go_at_call 14; (with_reducible refine (rsame E3 E4 (by decide) (by decide) rfl).mono ?_); rintro e wa ⟨rfl, hb⟩; replace bel := bel.trans (hb.mono bel.size); replace E3 := E3.below hb; replace t3 := t3.below hb t3.lt; replace E4 := E4.below hb; clear hb))
      clear E4
      go_upto_region 14 with (fail)
      go_wp2_with fail
      refine (HOF.out _).mono ?_
      rintro e w3 ⟨A6, c6, l6, B6, d6, m6, rfl, E6, hb⟩
      replace bel := bel.trans (hb.mono bel.size)
      replace E3 := E3.below hb
      replace t3 := t3.below hb t3.lt
      clear hb
      go_upto_region 15 with (fail)
      have hg6 : g3 < w3.heap.size := t3.lt
      have t6 : Four (w3.alloc (.cells #[.bool (decide (o.num < 0)), .slice A6 l6.length c6, .bool false, .slice B6 m6.length d6] 26)) w3.heap.size (.bool (decide (o.num < 0))) (.slice A6 l6.length c6) (.bool false) (.slice B6 m6.length d6) := Four.new_ w3 (.bool (decide (o.num < 0))) (.slice A6 l6.length c6) (.bool false) (.slice B6 m6.length d6) 26
      have bn : Below w3.heap.size w3 (w3.alloc (.cells #[.bool (decide (o.num < 0)), .slice A6 l6.length c6, .bool false, .slice B6 m6.length d6] 26)) := (Below.refl _ _).alloc (Nat.le_refl _) _
      replace bel := bel.trans (bn.mono bel.size)
      replace E3 := E3.below bn
      replace t3 := t3.below bn t3.lt
      replace E6 := E6.below bn
      clear bn
      generalize (w3.alloc (.cells #[.bool (decide (o.num < 0)), .slice A6 l6.length c6, .bool false, .slice B6 m6.length d6] 26)) = v1 at bel E3 t3 E6 t6 ⊢
      generalize w3.heap.size = g6 at bel E3 t3 E6 t6 hg6 ⊢
      have hs9 : w.heap.size < g6 := by omega
      go_cut [8, 9] (fun s8 e9 wx => e9 = .int .i64 0 ∧ Bx g6 zn 42 s8 wx ∧ Four wx g3 (.bool (decide (s.num < 0))) (.slice A3 l3.length c3) (.bool false) (.slice B3 m3.length d3) ∧ Four wx g6 (.bool (decide (o.num < 0))) (.slice A6 l6.length c6) (.bool false) (.slice B6 m6.length d6) ∧ Cr wx A3 c3 l3 B3 d3 m3 s 42 ∧ Cr wx A6 c6 l6 B6 d6 m6 o 2 ∧ Below w.heap.size w wx)
      case first =>
        have zz := t6.lt
        have zzt3 := t3.lt
        go_region_held3 (fun w' => w'.cell? ⟨g3, 0, none⟩ = some (.bool (decide (s.num < 0))) ∧ w'.cell? ⟨g3, 1, none⟩ = some (.slice A3 l3.length c3) ∧ w'.cell? ⟨g3, 2, none⟩ = some (.bool false) ∧ w'.cell? ⟨g3, 3, none⟩ = some (.slice B3 m3.length d3) ∧ w'.cell? ⟨g6, 0, none⟩ = some (.bool (decide (o.num < 0))) ∧ w'.cell? ⟨g6, 1, none⟩ = some (.slice A6 l6.length c6) ∧ w'.cell? ⟨g6, 2, none⟩ = some (.bool false) ∧ w'.cell? ⟨g6, 3, none⟩ = some (.slice B6 m6.length d6))
          ((repeat' (first | (with_reducible refine And.intro ?_ ?_) | (with_reducible refine far4c ?_ ?_) | (with_reducible refine far2c ?_ ?_) | (with_reducible refine cell_allocc ?_) | (with_reducible refine cell_drewc ?_))) <;> (first | (with_reducible exact t3.c0) | (with_reducible exact t3.c1) | (with_reducible exact t3.c2) | (with_reducible exact t3.c3) | (with_reducible exact t6.c0) | (with_reducible exact t6.c1) | (with_reducible exact t6.c2) | (with_reducible exact t6.c3) | omega | (simp; omega)))
          (first
            | (go_at_call 37; (first | ((with_reducible refine (HFL.out _ _ _ _ _ _ _ (E3.below (bq_d _))).mono ?_); rintro e wa ⟨p7, A7, c7, l7, rfl, E7, hb⟩; have hq := bq (bq_d _) hb; replace t3 := t3.below hq t3.lt; replace t6 := t6.below hq t6.lt; replace E3 := E3.below hq; replace E6 := E6.below hq; replace bel := bel.trans (hq.mono bel.size); have zzt30 := t3.lt; have zzt60 := t6.lt; clear hb hq) | ((with_reducible refine (HFL.out _ _ _ _ _ _ _ (E3.below (bq_da _ _))).mono ?_); rintro e wa ⟨p7, A7, c7, l7, rfl, E7, hb⟩; have tN := ((Four.new_ _ (.bool false) (.slice none 0 0) (.bool false) (.slice none 0 0) 26).drew).below hb ((Four.new_ _ (.bool false) (.slice none 0 0) (.bool false) (.slice none 0 0) 26).drew).lt; have hq := bq (bq_da _ _) hb; replace t3 := t3.below hq t3.lt; replace t6 := t6.below hq t6.lt; replace E3 := E3.below hq; replace E6 := E6.below hq; replace bel := bel.trans (hq.mono bel.size); have zzt30 := t3.lt; have zzt60 := t6.lt; clear hb hq)))
            | (go_at_call 18; (first | ((with_reducible refine (HNW.out _ _ _ _ _ _ _ _ _ (E7.below (bq_r _)).iv (E6.below (bq_r _)).a.iv).mono ?_); rintro e wa ⟨A8, c8, l8, B8, d8, m8, rfl, CC, hb⟩; have hq := bq (bq_r _) hb; replace t3 := t3.below hq t3.lt; replace t6 := t6.below hq t6.lt; replace E3 := E3.below hq; replace E6 := E6.below hq; replace bel := bel.trans (hq.mono bel.size); replace E7 := E7.below hq; (try replace tN := tN.below hb tN.lt); have zzt31 := t3.lt; have zzt61 := t6.lt; (try have n0 := tN.c0); (try have n1 := tN.c1); (try have m0 := tN.fr 0); (try have m1 := tN.fr 1); (try have n2 := tN.c2); (try have n3 := tN.c3); (try have m2 := tN.fr 2); (try have m3 := tN.fr 3); (try have hg := tN.lt); clear hb hq) | ((with_reducible refine (HNW.out _ _ _ _ _ _ _ _ _ (E7.below (al1 _ _)).iv (E6.below (al1 _ _)).a.iv).mono ?_); rintro e wa ⟨A8, c8, l8, B8, d8, m8, rfl, CC, hb⟩; have tN := ((Four.new_ _ (.bool false) (.slice none 0 0) (.bool false) (.slice none 0 0) 26)).below hb ((Four.new_ _ (.bool false) (.slice none 0 0) (.bool false) (.slice none 0 0) 26)).lt; have hq := bq (al1 _ _) hb; replace t3 := t3.below hq t3.lt; replace t6 := t6.below hq t6.lt; replace E3 := E3.below hq; replace E6 := E6.below hq; replace bel := bel.trans (hq.mono bel.size); replace E7 := E7.below hq; have zzt31 := t3.lt; have zzt61 := t6.lt; (try have n0 := tN.c0); (try have n1 := tN.c1); (try have m0 := tN.fr 0); (try have m1 := tN.fr 1); (try have n2 := tN.c2); (try have n3 := tN.c3); (try have m2 := tN.fr 2); (try have m3 := tN.fr 3); (try have hg := tN.lt); clear hb hq))))
        all_goals
          go_wp2_with fail
          go_meet
          first
            | exact ⟨rfl, ⟨_, _, _, _, _, _, _, rfl, by omega, Four.new_ _ _ _ _ _ _, CC.alloc _⟩, t3.alloc _, t6.alloc _, E3.alloc _, E6.alloc _, bel.alloc bel.size _⟩
            | exact ⟨rfl, ⟨_, _, _, _, _, _, _, rfl, by omega, tN.put _ _ _ _, CC.put4 tN _ _ _ _⟩, t3.far4 (by omega) _ _ _ _, t6.far4 (by omega) _ _ _ _, E3.put4 tN _ _ _ _, E6.put4 tN _ _ _ _, below_set4 bel (by omega) _ _ _ _⟩
      case rest =>
        obtain ⟨rfl, ⟨g8, A8, c8, l8, B8, d8, m8, rfl, hg8, t8, E8⟩, t3, t6, E3, E6, bel⟩ := hcut
        go_upto_region 16 with (fail)
        replace t3 := t3.drew
        replace t6 := t6.drew
        replace t8 := t8.drew
        replace E3 := E3.drew
        replace E6 := E6.drew
        replace E8 := E8.drew
        replace bel := bDrew1 bel
        go_region_held3 (fun w' => w'.cell? ⟨g3, 0, none⟩ = some (.bool (decide (s.num < 0))) ∧ w'.cell? ⟨g3, 1, none⟩ = some (.slice A3 l3.length c3) ∧ w'.cell? ⟨g3, 2, none⟩ = some (.bool false) ∧ w'.cell? ⟨g3, 3, none⟩ = some (.slice B3 m3.length d3) ∧ w'.cell? ⟨g6, 0, none⟩ = some (.bool (decide (o.num < 0))) ∧ w'.cell? ⟨g6, 1, none⟩ = some (.slice A6 l6.length c6) ∧ w'.cell? ⟨g6, 2, none⟩ = some (.bool false) ∧ w'.cell? ⟨g6, 3, none⟩ = some (.slice B6 m6.length d6) ∧ w'.cell? ⟨g8, 0, none⟩ = some (.bool (decide (zn.num < 0))) ∧ w'.cell? ⟨g8, 1, none⟩ = some (.slice A8 l8.length c8) ∧ w'.cell? ⟨g8, 2, none⟩ = some (.bool false) ∧ w'.cell? ⟨g8, 3, none⟩ = some (.slice B8 m8.length d8))
          (with_reducible exact ⟨t3.c0, t3.c1, t3.c2, t3.c3, t6.c0, t6.c1, t6.c2, t6.c3, t8.c0, t8.c1, t8.c2, t8.c3⟩)
          (first
            | (go_at_call 34; (with_reducible refine (HC1.out _ _ _ _ _ _ _ _ _ _ _ _ _ E8 E3).mono ?_); rintro e wa ⟨rfl, hb⟩; replace t3 := t3.below hb t3.lt; replace t6 := t6.below hb t6.lt; replace t8 := t8.below hb t8.lt; replace E3 := E3.below hb; replace E6 := E6.below hb; replace E8 := E8.below hb; replace bel := bel.trans (hb.mono bel.size); clear hb)
            | (go_at_call 24; (with_reducible refine (HA1.out _ _ _ _ _ _ _ _ _ _ _ _ _ E8 E6).mono ?_); rintro e wa ⟨A9, c9, l9, B9, d9, m9, rfl, E9, hb⟩; replace t3 := t3.below hb t3.lt; replace t6 := t6.below hb t6.lt; replace t8 := t8.below hb t8.lt; replace E3 := E3.below hb; replace E6 := E6.below hb; replace E8 := E8.below hb; replace bel := bel.trans (hb.mono bel.size); clear hb)
            | (go_at_call 34; (with_reducible refine (HC2.out _ _ _ _ _ _ _ _ _ _ _ _ _ E3 E9).mono ?_); rintro e wa ⟨rfl, hb⟩; replace t3 := t3.below hb t3.lt; replace t6 := t6.below hb t6.lt; replace t8 := t8.below hb t8.lt; replace E3 := E3.below hb; replace E6 := E6.below hb; replace E8 := E8.below hb; replace bel := bel.trans (hb.mono bel.size); replace E9 := E9.below hb; clear hb)
            | (go_at_call 37; (with_reducible refine (HFL.out _ _ _ _ _ _ _ E3).mono ?_); rintro e wa ⟨p7, A7, c7, l7, rfl, E7, hb⟩; replace t3 := t3.below hb t3.lt; replace t6 := t6.below hb t6.lt; replace t8 := t8.below hb t8.lt; replace E3 := E3.below hb; replace E6 := E6.below hb; replace E8 := E8.below hb; replace bel := bel.trans (hb.mono bel.size); replace E9 := E9.below hb; clear hb)
            | (go_at_call 14; (with_reducible refine (HS3.out _ _ _ _ _ _ _ _ _ _ _ _ _ _ _ E7 E6.a E8).mono ?_); rintro e wa ⟨rfl, hb⟩; replace t3 := t3.below hb t3.lt; replace t6 := t6.below hb t6.lt; replace t8 := t8.below hb t8.lt; replace E3 := E3.below hb; replace E6 := E6.below hb; replace E8 := E8.below hb; replace bel := bel.trans (hb.mono bel.size); replace E9 := E9.below hb; replace E7 := E7.below hb; clear hb))
        go_wp2_with fail
        go_ret
        exact ⟨rfl, bel⟩
end Go.Proofs.YtpfaddgcfacgdaaGreatDoor
/- Walks of package rational: RationalFloor, the law. -/
namespace Go.Proofs.YtpfaddgcfacgdaaGreatDoor
open Go.RowKit
set_option linter.unusedVariables false

set_option maxRecDepth 100000 in
set_option maxHeartbeats 400000 in
theorem floor_long (A : Option Addr) (c : Nat) (l : List Fr) (w : World) (hn : 8 < l.length) (hl : l.length ≤ 9223372036854775807) (ht : Tabs w) (mx : Mx w) :
    Calls Tryz.prog 9 #[.slice A l.length c] w fun e w' => e = .returned (.bool true) ∧ Below w.heap.size w w' := by
  have c1 : decide (8 < (l.length : Int)) = true := decide_eq_true (by omega)
  have c2 : decide (8 < l.length) = true := decide_eq_true hn
  clear hn
  go_enter Tryz.func9, Tryz.ntmps9
  go_wp2_with fail
  refine (rknown_ok _ ht mx).mono ?_
  rintro e w2 ⟨rfl, hb⟩
  go_wp2_with fail
  go_ret
  exact ⟨rfl, hb⟩
theorem floor_walk (A : Option Addr) (c : Nat) (l : List Fr) (w : World) (hL : Fr.L w A l) (ht : Tabs w) (mx : Mx w) :
    Calls Tryz.prog 9 #[.slice A l.length c] w fun e w' => e = .returned (.bool true) ∧ Below w.heap.size w w' := by
  rcases Nat.lt_or_ge 8 l.length with h | h
  · exact floor_long A c l w h hL.len ht mx
  · exact floor_main A c l w hL h ht mx
end Go.Proofs.YtpfaddgcfacgdaaGreatDoor
