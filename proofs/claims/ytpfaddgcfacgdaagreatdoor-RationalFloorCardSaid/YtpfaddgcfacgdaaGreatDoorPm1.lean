/- My texts, packed: N1, N2, N4, N3. -/
import Derived.Test.YtpfaddgcfacgdaaGreatDoorPl3
/- Walks of package rational: Neg of the reference. -/
namespace Go.Proofs.YtpfaddgcfacgdaaGreatDoor
open Go.RowKit
set_option linter.unusedVariables false

theorem cell_allocc {W : World} {b j : Nat} {x : Value} {o : Obj} (h : W.cell? ⟨b, j, none⟩ = some x) : (W.alloc o).cell? ⟨b, j, none⟩ = some x := (World.cell?_alloc_lt W o _ (World.block_lt_of_cell? W _ h)).trans h
theorem cell_drewc {W : World} {b j : Nat} {x : Value} (h : W.cell? ⟨b, j, none⟩ = some x) : W.drew.cell? ⟨b, j, none⟩ = some x := h
theorem far1c (W : World) (g i : Nat) (u : Value) {b j : Nat} {x : Value} (h : W.cell? ⟨b, j, none⟩ = some x) (hne : b ≠ g) : (W.setCell ⟨g, i, none⟩ u).cell? ⟨b, j, none⟩ = some x := (World.cell?_of_block (w := W) (Below.heap_setCell W ⟨g, i, none⟩ u b hne)).trans h
theorem far2c {W : World} {g b j : Nat} {u v x : Value} (h : W.cell? ⟨b, j, none⟩ = some x) (hne : b ≠ g) : ((W.setCell ⟨g, 0, none⟩ u).setCell ⟨g, 1, none⟩ v).cell? ⟨b, j, none⟩ = some x := far1c _ _ _ _ (far1c _ _ _ _ h hne) hne
theorem far4c {W : World} {g b j : Nat} {u v u' v' x : Value} (h : W.cell? ⟨b, j, none⟩ = some x) (hne : b ≠ g) : ((((W.setCell ⟨g, 0, none⟩ u).setCell ⟨g, 1, none⟩ v).setCell ⟨g, 2, none⟩ u').setCell ⟨g, 3, none⟩ v').cell? ⟨b, j, none⟩ = some x := far1c _ _ _ _ (far1c _ _ _ _ (far2c h hne) hne) hne
theorem bq_r (w : World) : Below w.heap.size w w := Below.refl _ _
theorem bq_d (w : World) : Below w.heap.size w w.drew := bDrew1 (Below.refl _ _)
theorem bq_da (w : World) (o : Obj) : Below w.heap.size w (w.alloc o).drew := bDrew1 (al1 _ _)
theorem bq {w w1 w2 : World} (h : Below w.heap.size w w1) (hb : Below w1.heap.size w1 w2) : Below w.heap.size w w2 := h.trans (hb.mono h.size)
/-- a fraction in a new box -/
def Bx (hi : Nat) (z : Rat) (n : Nat) (s : Value) (W : World) : Prop := ∃ g A c l B d m, s = .pointer (some ⟨g, 0, none⟩) ∧ hi < g ∧ Four W g (.bool (decide (z.num < 0))) (.slice A l.length c) (.bool false) (.slice B m.length d) ∧ Cr W A c l B d m z n

set_option maxRecDepth 100000 in
set_option maxHeartbeats 1500000 in
theorem rrneg {w : World} {p1 : Bool} {A1 : Option Addr} {c1 : Nat} {l1 : List Nat} {q1 : Bool} {B1 : Option Addr} {d1 : Nat} {m1 : List Nat} {z1 : Rat} {n : Nat} (h1 : Rv w p1 A1 c1 l1 q1 B1 d1 m1 z1 n) (hn : n ≤ 100) (hn1 : 1 ≤ n) :
    Calls Tryz.prog 30 #[ratV p1 A1 l1.length c1 q1 B1 m1.length d1] w (GR (-z1) n w) := by
  obtain ⟨z, hz⟩ : ∃ z, z = -z1 := ⟨_, rfl⟩
  rw [← hz]
  have HNW := Lib.hid (fun (W : World) (p : Bool) (A : Option Addr) (c : Nat) (l : List Nat) (q : Bool) (B : Option Addr) (d : Nat) (m : List Nat) (h : Cn W p A c l (-z1.num) n) (h' : Cn W q B d m (z1.den : Int) n) => (by have h := grnew h.iv h'.iv (by have := rq_den_pos z1; omega) hn hn1; rw [← Rat.neg_divInt, rq_self, ← hz] at h; exact h : Calls Tryz.prog 18 #[.agg #[.bool p, .slice A l.length c], .agg #[.bool q, .slice B m.length d]] W (GRc z n W)))
  have HCL := Lib.hid (fun (W : World) (h : Rv W p1 A1 c1 l1 q1 B1 d1 m1 z1 n) => rrcln h hn hn1)
  have HNG := Lib.hid (fun (W : World) (p : Bool) (A : Option Addr) (c : Nat) (l : List Nat) (h : Cn W p A c l z1.num n) => grneg h.iv hn)
  clear hn hn1 hz
  unfold ratV
  go_enter Tryz.func30, Tryz.ntmps30
  go_wp2_with fail
  have t1 : Four ((w.alloc (.cells #[.bool p1, .slice A1 l1.length c1, .bool q1, .slice B1 m1.length d1] 26)).alloc (.cells #[.bool false, .slice none 0 0, .bool false, .slice none 0 0] 26)) w.heap.size (.bool p1) (.slice A1 l1.length c1) (.bool q1) (.slice B1 m1.length d1) := (Four.new_ w (.bool p1) (.slice A1 l1.length c1) (.bool q1) (.slice B1 m1.length d1) 26).alloc _
  have t2 : Four ((w.alloc (.cells #[.bool p1, .slice A1 l1.length c1, .bool q1, .slice B1 m1.length d1] 26)).alloc (.cells #[.bool false, .slice none 0 0, .bool false, .slice none 0 0] 26)) (w.heap.size + 1) (.bool false) (.slice none 0 0) (.bool false) (.slice none 0 0) := by simpa only [World.size_alloc, Nat.add_assoc, Nat.reduceAdd] using Four.new_ (w.alloc (.cells #[.bool p1, .slice A1 l1.length c1, .bool q1, .slice B1 m1.length d1] 26)) (.bool false) (.slice none 0 0) (.bool false) (.slice none 0 0) 26
  have bel : Below w.heap.size w ((w.alloc (.cells #[.bool p1, .slice A1 l1.length c1, .bool q1, .slice B1 m1.length d1] 26)).alloc (.cells #[.bool false, .slice none 0 0, .bool false, .slice none 0 0] 26)) := ((Below.refl _ _).alloc (Nat.le_refl _) _).alloc (by simp only [World.size_alloc]; omega) _
  generalize ((w.alloc (.cells #[.bool p1, .slice A1 l1.length c1, .bool q1, .slice B1 m1.length d1] 26)).alloc (.cells #[.bool false, .slice none 0 0, .bool false, .slice none 0 0] 26)) = wx at t1 t2 bel ⊢
  have X := h1.below bel
  have t1_0 := t1.c0
  have t1_1 := t1.c1
  have t1_2 := t1.c2
  have t1_3 := t1.c3
  go_wp2_with fail
  refine (HCL.out _ X).mono ?_
  rintro e w2 ⟨A4, c4, l4, B4, d4, m4, rfl, C, hb⟩
  clear t1_0 t1_1 t1_2 t1_3
  clear t1
  replace t2 := t2.below hb t2.lt
  replace bel := bel.trans (hb.mono bel.size)
  clear hb
  clear X
  go_upto_region 2 with (fail)
  have hg3 : w.heap.size + 1 < w2.heap.size := t2.lt
  have t3 : Four (w2.alloc (.cells #[.bool (decide (z1.num < 0)), .slice A4 l4.length c4, .bool false, .slice B4 m4.length d4] 26)) w2.heap.size (.bool (decide (z1.num < 0))) (.slice A4 l4.length c4) (.bool false) (.slice B4 m4.length d4) := Four.new_ w2 (.bool (decide (z1.num < 0))) (.slice A4 l4.length c4) (.bool false) (.slice B4 m4.length d4) 26
  have bn : Below w2.heap.size w2 (w2.alloc (.cells #[.bool (decide (z1.num < 0)), .slice A4 l4.length c4, .bool false, .slice B4 m4.length d4] 26)) := (Below.refl _ _).alloc (Nat.le_refl _) _
  replace t2 := t2.below bn t2.lt
  replace bel := bel.trans (bn.mono bel.size)
  replace C := C.below bn
  clear bn
  generalize (w2.alloc (.cells #[.bool (decide (z1.num < 0)), .slice A4 l4.length c4, .bool false, .slice B4 m4.length d4] 26)) = v1 at t2 bel C t3 ⊢
  generalize w2.heap.size = g3 at t2 bel C t3 hg3 ⊢
  go_cut [4] (fun s wx => Bx (w.heap.size + 1) z n s wx ∧ Four wx (w.heap.size + 1) (.bool false) (.slice none 0 0) (.bool false) (.slice none 0 0) ∧ Below w.heap.size w wx)
  case first =>
    have zz := t3.lt
    go_region_held3 (fun w' => w'.cell? ⟨g3, 0, none⟩ = some (.bool (decide (z1.num < 0))) ∧ w'.cell? ⟨g3, 1, none⟩ = some (.slice A4 l4.length c4) ∧ w'.cell? ⟨g3, 2, none⟩ = some (.bool false) ∧ w'.cell? ⟨g3, 3, none⟩ = some (.slice B4 m4.length d4))
      ((repeat' (first | (with_reducible refine And.intro ?_ ?_) | (with_reducible refine far4c ?_ ?_) | (with_reducible refine far2c ?_ ?_) | (with_reducible refine cell_allocc ?_) | (with_reducible refine cell_drewc ?_))) <;> (first | (with_reducible exact t3.c0) | (with_reducible exact t3.c1) | (with_reducible exact t3.c2) | (with_reducible exact t3.c3) | omega | (simp; omega)))
      (first
        | (go_at_call 57; (first | ((with_reducible refine (HNG.out _ _ _ _ _ (C.below (bq_d _)).a).mono ?_); rintro e wa ⟨p5, A5, c5, l5, rfl, E5, hb⟩; have hq := bq (bq_d _) hb; replace t2 := t2.below hq t2.lt; replace t3 := t3.below hq t3.lt; replace C := C.below hq; replace bel := bel.trans (hq.mono bel.size); have zzt30 := t3.lt; clear hb hq) | ((with_reducible refine (HNG.out _ _ _ _ _ (C.below (bq_da _ _)).a).mono ?_); rintro e wa ⟨p5, A5, c5, l5, rfl, E5, hb⟩; have tN := ((Four.new_ _ (.bool false) (.slice none 0 0) (.bool false) (.slice none 0 0) 26).drew).below hb ((Four.new_ _ (.bool false) (.slice none 0 0) (.bool false) (.slice none 0 0) 26).drew).lt; have hq := bq (bq_da _ _) hb; replace t2 := t2.below hq t2.lt; replace t3 := t3.below hq t3.lt; replace C := C.below hq; replace bel := bel.trans (hq.mono bel.size); have zzt30 := t3.lt; clear hb hq)))
        | (go_at_call 18; (first | ((with_reducible refine (HNW.out _ _ _ _ _ _ _ _ _ (E5.below (bq_r _)) (C.below (bq_r _)).b).mono ?_); rintro e wa ⟨A6, c6, l6, B6, d6, m6, rfl, CC, hb⟩; have hq := bq (bq_r _) hb; replace t2 := t2.below hq t2.lt; replace t3 := t3.below hq t3.lt; replace C := C.below hq; replace bel := bel.trans (hq.mono bel.size); replace E5 := E5.below hq; (try replace tN := tN.below hb tN.lt); have zzt31 := t3.lt; (try have n0 := tN.c0); (try have n1 := tN.c1); (try have m0 := tN.fr 0); (try have m1 := tN.fr 1); (try have n2 := tN.c2); (try have n3 := tN.c3); (try have m2 := tN.fr 2); (try have m3 := tN.fr 3); (try have hg := tN.lt); clear hb hq) | ((with_reducible refine (HNW.out _ _ _ _ _ _ _ _ _ (E5.below (al1 _ _)) (C.below (al1 _ _)).b).mono ?_); rintro e wa ⟨A6, c6, l6, B6, d6, m6, rfl, CC, hb⟩; have tN := ((Four.new_ _ (.bool false) (.slice none 0 0) (.bool false) (.slice none 0 0) 26)).below hb ((Four.new_ _ (.bool false) (.slice none 0 0) (.bool false) (.slice none 0 0) 26)).lt; have hq := bq (al1 _ _) hb; replace t2 := t2.below hq t2.lt; replace t3 := t3.below hq t3.lt; replace C := C.below hq; replace bel := bel.trans (hq.mono bel.size); replace E5 := E5.below hq; have zzt31 := t3.lt; (try have n0 := tN.c0); (try have n1 := tN.c1); (try have m0 := tN.fr 0); (try have m1 := tN.fr 1); (try have n2 := tN.c2); (try have n3 := tN.c3); (try have m2 := tN.fr 2); (try have m3 := tN.fr 3); (try have hg := tN.lt); clear hb hq))))
    all_goals
      go_wp2_with fail
      go_meet
      first
        | exact ⟨⟨_, _, _, _, _, _, _, rfl, by omega, Four.new_ _ _ _ _ _ _, CC.alloc _⟩, t2.alloc _, bel.alloc bel.size _⟩
        | exact ⟨⟨_, _, _, _, _, _, _, rfl, by omega, tN.put _ _ _ _, CC.put4 tN _ _ _ _⟩, t2.far4 (by omega) _ _ _ _, below_set4 bel (by omega) _ _ _ _⟩
  case rest =>
    obtain ⟨⟨g9, A9, c9, l9, B9, d9, m9, rfl, hg9, t9, C9⟩, t2, bel⟩ := hcut
    have e0 := t9.c0
    have e1 := t9.c1
    have e2 := t9.c2
    have e3 := t9.c3
    have d0 := t2.c0
    have d1 := t2.c1
    have d2 := t2.c2
    have d3 := t2.c3
    have f0 := t2.fr 0
    have f1 := t2.fr 1
    have f2 := t2.fr 2
    have f3 := t2.fr 3
    have R := Lib.hid (t2.put (.bool (decide (z.num < 0))) (.slice A9 l9.length c9) (.bool false) (.slice B9 m9.length d9))
    have CR := Lib.hid (C9.put4 t2 (.bool (decide (z.num < 0))) (.slice A9 l9.length c9) (.bool false) (.slice B9 m9.length d9))
    have BL := Lib.hid (below_set4 bel (b := w.heap.size + 1) (by omega) (.bool (decide (z.num < 0))) (.slice A9 l9.length c9) (.bool false) (.slice B9 m9.length d9))
    clear t9 t2 C9 bel
    go_wp2_with fail
    have r0 := R.out.c0
    have r1 := R.out.c1
    have r2 := R.out.c2
    have r3 := R.out.c3
    unfold set4 at r0 r1 r2 r3
    refine bodyPost_ret (v := .agg #[.bool (decide (z.num < 0)), .slice A9 l9.length c9, .bool false, .slice B9 m9.length d9]) (by simp [results, Tryz.results30, go_sem, r0, r1, r2, r3]) rfl ?_
    exact ⟨A9, c9, l9, B9, d9, m9, rfl, CR.out, BL.out⟩
end Go.Proofs.YtpfaddgcfacgdaaGreatDoor
/- Walks of package rational: Mul of the reference. -/
namespace Go.Proofs.YtpfaddgcfacgdaaGreatDoor
open Go.RowKit
set_option linter.unusedVariables false

set_option maxRecDepth 100000 in
set_option maxHeartbeats 2000000 in
theorem rrmul {p1 : Bool} {A1 : Option Addr} {c1 : Nat} {l1 : List Nat} {q1 : Bool} {B1 : Option Addr} {d1 : Nat} {m1 : List Nat} {z1 : Rat} {p2 : Bool} {A2 : Option Addr} {c2 : Nat} {l2 : List Nat} {q2 : Bool} {B2 : Option Addr} {d2 : Nat} {m2 : List Nat} {z2 : Rat} {n k : Nat} {w : World} (h1 : Rv w p1 A1 c1 l1 q1 B1 d1 m1 z1 n) (h2 : Rv w p2 A2 c2 l2 q2 B2 d2 m2 z2 k) (hn : n ≤ 40) (hn1 : 1 ≤ n) (hk : k ≤ 40) (hk1 : 1 ≤ k) :
    Calls Tryz.prog 28 #[ratV p1 A1 l1.length c1 q1 B1 m1.length d1, ratV p2 A2 l2.length c2 q2 B2 m2.length d2] w (GR (z1 * z2) (n + k) w) := by
  have HN1 := Lib.hid hn1
  obtain ⟨z, hz⟩ : ∃ z, z = z1 * z2 := ⟨_, rfl⟩
  rw [← hz]
  have HZ := Lib.hid hz
  clear hz
  have HN := Lib.hid hn
  have HK := Lib.hid hk
  have HM1 := Lib.hid (fun (W : World) (A : Option Addr) (c : Nat) (l : List Nat) (Bb : Option Addr) (d : Nat) (m : List Nat) (h : Cn W (decide (z1.num < 0)) A c l z1.num n) (h' : Cn W (decide (z2.num < 0)) Bb d m z2.num k) => grmul h.iv h'.iv (by have := HN.out; have := HK.out; omega) (by have := HN.out; have := HK.out; omega))
  have HM2 := Lib.hid (fun (W : World) (A : Option Addr) (c : Nat) (l : List Nat) (Bb : Option Addr) (d : Nat) (m : List Nat) (h : Cn W false A c l (z1.den : Int) n) (h' : Cn W false Bb d m (z2.den : Int) k) => grmul h.iv h'.iv (by have := HN.out; have := HK.out; omega) (by have := HN.out; have := HK.out; omega))
  have HNW := Lib.hid (fun (W : World) (pa : Bool) (Aa : Option Addr) (ca : Nat) (la : List Nat) (pb : Bool) (Ab : Option Addr) (cb : Nat) (lb : List Nat) (h : Cn W pa Aa ca la (z1.num * z2.num) (n + k)) (h' : Cn W pb Ab cb lb ((z1.den : Int) * (z2.den : Int)) (n + k)) => (by have h := grnew h.iv h'.iv (Int.ne_of_gt (Int.mul_pos (rq_den_pos z1) (rq_den_pos z2))) (by have := HN.out; have := HK.out; omega) (by have := HN1.out; omega); rw [← Rat.divInt_mul_divInt, rq_self, rq_self, ← HZ.out] at h; exact h : Calls Tryz.prog 18 #[.agg #[.bool pa, .slice Aa la.length ca], .agg #[.bool pb, .slice Ab lb.length cb]] W (GRc z (n + k) W)))
  clear HN HK
  have HC1 := Lib.hid (fun (W : World) (h : Rv W p1 A1 c1 l1 q1 B1 d1 m1 z1 n) => rrcln h (by omega) hn1)
  have HC2 := Lib.hid (fun (W : World) (h : Rv W p2 A2 c2 l2 q2 B2 d2 m2 z2 k) => rrcln h (by omega) hk1)
  have HN := Lib.hid hn
  have HK := Lib.hid hk
  clear hn hn1 hk hk1
  unfold ratV
  go_enter Tryz.func28, Tryz.ntmps28
  go_wp2_with fail
  have t1 : Four (((w.alloc (.cells #[.bool p1, .slice A1 l1.length c1, .bool q1, .slice B1 m1.length d1] 26)).alloc (.cells #[.bool p2, .slice A2 l2.length c2, .bool q2, .slice B2 m2.length d2] 26)).alloc (.cells #[.bool false, .slice none 0 0, .bool false, .slice none 0 0] 26)) w.heap.size (.bool p1) (.slice A1 l1.length c1) (.bool q1) (.slice B1 m1.length d1) := ((Four.new_ w (.bool p1) (.slice A1 l1.length c1) (.bool q1) (.slice B1 m1.length d1) 26).alloc _).alloc _
  have t2 : Four (((w.alloc (.cells #[.bool p1, .slice A1 l1.length c1, .bool q1, .slice B1 m1.length d1] 26)).alloc (.cells #[.bool p2, .slice A2 l2.length c2, .bool q2, .slice B2 m2.length d2] 26)).alloc (.cells #[.bool false, .slice none 0 0, .bool false, .slice none 0 0] 26)) (w.heap.size + 1) (.bool p2) (.slice A2 l2.length c2) (.bool q2) (.slice B2 m2.length d2) := by simpa only [World.size_alloc, Nat.add_assoc, Nat.reduceAdd] using (Four.new_ (w.alloc (.cells #[.bool p1, .slice A1 l1.length c1, .bool q1, .slice B1 m1.length d1] 26)) (.bool p2) (.slice A2 l2.length c2) (.bool q2) (.slice B2 m2.length d2) 26).alloc _
  have t3 : Four (((w.alloc (.cells #[.bool p1, .slice A1 l1.length c1, .bool q1, .slice B1 m1.length d1] 26)).alloc (.cells #[.bool p2, .slice A2 l2.length c2, .bool q2, .slice B2 m2.length d2] 26)).alloc (.cells #[.bool false, .slice none 0 0, .bool false, .slice none 0 0] 26)) (w.heap.size + 2) (.bool false) (.slice none 0 0) (.bool false) (.slice none 0 0) := by simpa only [World.size_alloc, Nat.add_assoc, Nat.reduceAdd] using Four.new_ ((w.alloc (.cells #[.bool p1, .slice A1 l1.length c1, .bool q1, .slice B1 m1.length d1] 26)).alloc (.cells #[.bool p2, .slice A2 l2.length c2, .bool q2, .slice B2 m2.length d2] 26)) (.bool false) (.slice none 0 0) (.bool false) (.slice none 0 0) 26
  have bel : Below w.heap.size w (((w.alloc (.cells #[.bool p1, .slice A1 l1.length c1, .bool q1, .slice B1 m1.length d1] 26)).alloc (.cells #[.bool p2, .slice A2 l2.length c2, .bool q2, .slice B2 m2.length d2] 26)).alloc (.cells #[.bool false, .slice none 0 0, .bool false, .slice none 0 0] 26)) := (((Below.refl _ _).alloc (Nat.le_refl _) _).alloc (by simp only [World.size_alloc]; omega) _).alloc (by simp only [World.size_alloc]; omega) _
  generalize (((w.alloc (.cells #[.bool p1, .slice A1 l1.length c1, .bool q1, .slice B1 m1.length d1] 26)).alloc (.cells #[.bool p2, .slice A2 l2.length c2, .bool q2, .slice B2 m2.length d2] 26)).alloc (.cells #[.bool false, .slice none 0 0, .bool false, .slice none 0 0] 26)) = wx at t1 t2 t3 bel ⊢
  have X := h1.below bel
  have t1_0 := t1.c0
  have t1_1 := t1.c1
  have t1_2 := t1.c2
  have t1_3 := t1.c3
  go_wp2_with fail
  refine (HC1.out _ X).mono ?_
  rintro e w2 ⟨A5, c5, l5, B5, d5, m5, rfl, C1, hb⟩
  clear t1_0 t1_1 t1_2 t1_3
  clear t1
  replace t2 := t2.below hb t2.lt
  replace t3 := t3.below hb t3.lt
  replace bel := bel.trans (hb.mono bel.size)
  clear hb
  clear X
  go_upto_region 2 with (fail)
  have hg5 : w.heap.size + 2 < w2.heap.size := t3.lt
  have t5 : Four (w2.alloc (.cells #[.bool (decide (z1.num < 0)), .slice A5 l5.length c5, .bool false, .slice B5 m5.length d5] 26)) w2.heap.size (.bool (decide (z1.num < 0))) (.slice A5 l5.length c5) (.bool false) (.slice B5 m5.length d5) := Four.new_ w2 (.bool (decide (z1.num < 0))) (.slice A5 l5.length c5) (.bool false) (.slice B5 m5.length d5) 26
  have bn : Below w2.heap.size w2 (w2.alloc (.cells #[.bool (decide (z1.num < 0)), .slice A5 l5.length c5, .bool false, .slice B5 m5.length d5] 26)) := (Below.refl _ _).alloc (Nat.le_refl _) _
  replace t2 := t2.below bn t2.lt
  replace t3 := t3.below bn t3.lt
  replace bel := bel.trans (bn.mono bel.size)
  replace C1 := C1.below bn
  clear bn
  generalize (w2.alloc (.cells #[.bool (decide (z1.num < 0)), .slice A5 l5.length c5, .bool false, .slice B5 m5.length d5] 26)) = v1 at t2 t3 bel C1 t5 ⊢
  generalize w2.heap.size = g5 at t2 t3 bel C1 t5 hg5 ⊢
  have Y := h2.below bel
  have t2_0 := t2.c0
  have t2_1 := t2.c1
  have t2_2 := t2.c2
  have t2_3 := t2.c3
  go_wp2_with fail
  refine (HC2.out _ Y).mono ?_
  rintro e w3 ⟨A6, c6, l6, B6, d6, m6, rfl, C2, hb⟩
  clear t2_0 t2_1 t2_2 t2_3
  clear t2
  replace t3 := t3.below hb t3.lt
  replace bel := bel.trans (hb.mono bel.size)
  replace C1 := C1.below hb
  replace t5 := t5.below hb t5.lt
  clear hb
  clear Y
  go_upto_region 3 with (fail)
  have hg6 : g5 < w3.heap.size := t5.lt
  have t6 : Four (w3.alloc (.cells #[.bool (decide (z2.num < 0)), .slice A6 l6.length c6, .bool false, .slice B6 m6.length d6] 26)) w3.heap.size (.bool (decide (z2.num < 0))) (.slice A6 l6.length c6) (.bool false) (.slice B6 m6.length d6) := Four.new_ w3 (.bool (decide (z2.num < 0))) (.slice A6 l6.length c6) (.bool false) (.slice B6 m6.length d6) 26
  have bn : Below w3.heap.size w3 (w3.alloc (.cells #[.bool (decide (z2.num < 0)), .slice A6 l6.length c6, .bool false, .slice B6 m6.length d6] 26)) := (Below.refl _ _).alloc (Nat.le_refl _) _
  replace t3 := t3.below bn t3.lt
  replace bel := bel.trans (bn.mono bel.size)
  replace C1 := C1.below bn
  replace t5 := t5.below bn t5.lt
  replace C2 := C2.below bn
  clear bn
  generalize (w3.alloc (.cells #[.bool (decide (z2.num < 0)), .slice A6 l6.length c6, .bool false, .slice B6 m6.length d6] 26)) = v2 at t3 bel C1 t5 C2 t6 ⊢
  generalize w3.heap.size = g6 at t3 bel C1 t5 C2 t6 hg6 ⊢
  go_cut [7] (fun s wx => Bx (w.heap.size + 2) z (n + k) s wx ∧ Four wx (w.heap.size + 2) (.bool false) (.slice none 0 0) (.bool false) (.slice none 0 0) ∧ Below w.heap.size w wx)
  case first =>
    have zz := t6.lt
    have zzt5 := t5.lt
    go_region_held3 (fun w' => w'.cell? ⟨g5, 0, none⟩ = some (.bool (decide (z1.num < 0))) ∧ w'.cell? ⟨g5, 1, none⟩ = some (.slice A5 l5.length c5) ∧ w'.cell? ⟨g5, 2, none⟩ = some (.bool false) ∧ w'.cell? ⟨g5, 3, none⟩ = some (.slice B5 m5.length d5) ∧ w'.cell? ⟨g6, 0, none⟩ = some (.bool (decide (z2.num < 0))) ∧ w'.cell? ⟨g6, 1, none⟩ = some (.slice A6 l6.length c6) ∧ w'.cell? ⟨g6, 2, none⟩ = some (.bool false) ∧ w'.cell? ⟨g6, 3, none⟩ = some (.slice B6 m6.length d6))
      ((repeat' (first | (with_reducible refine And.intro ?_ ?_) | (with_reducible refine far4c ?_ ?_) | (with_reducible refine far2c ?_ ?_) | (with_reducible refine cell_allocc ?_) | (with_reducible refine cell_drewc ?_))) <;> (first | (with_reducible exact t5.c0) | (with_reducible exact t5.c1) | (with_reducible exact t5.c2) | (with_reducible exact t5.c3) | (with_reducible exact t6.c0) | (with_reducible exact t6.c1) | (with_reducible exact t6.c2) | (with_reducible exact t6.c3) | omega | (simp; omega)))
      (first
        | (go_at_call 63; (first | ((with_reducible refine (HM1.out _ _ _ _ _ _ _ (C1.below (bq_d _)).a (C2.below (bq_d _)).a).mono ?_); rintro e wa ⟨p7, A7, c7, l7, rfl, E7, hb⟩; have hq := bq (bq_d _) hb; replace t3 := t3.below hq t3.lt; replace t5 := t5.below hq t5.lt; replace t6 := t6.below hq t6.lt; replace C1 := C1.below hq; replace C2 := C2.below hq; replace bel := bel.trans (hq.mono bel.size); have zzt50 := t5.lt; have zzt60 := t6.lt; clear hb hq) | ((with_reducible refine (HM1.out _ _ _ _ _ _ _ (C1.below (bq_da _ _)).a (C2.below (bq_da _ _)).a).mono ?_); rintro e wa ⟨p7, A7, c7, l7, rfl, E7, hb⟩; have tN := ((Four.new_ _ (.bool false) (.slice none 0 0) (.bool false) (.slice none 0 0) 26).drew).below hb ((Four.new_ _ (.bool false) (.slice none 0 0) (.bool false) (.slice none 0 0) 26).drew).lt; have hq := bq (bq_da _ _) hb; replace t3 := t3.below hq t3.lt; replace t5 := t5.below hq t5.lt; replace t6 := t6.below hq t6.lt; replace C1 := C1.below hq; replace C2 := C2.below hq; replace bel := bel.trans (hq.mono bel.size); have zzt50 := t5.lt; have zzt60 := t6.lt; clear hb hq)))
        | (go_at_call 63; (first | ((with_reducible refine (HM2.out _ _ _ _ _ _ _ (C1.below (bq_r _)).b (C2.below (bq_r _)).b).mono ?_); rintro e wa ⟨p8, A8, c8, l8, rfl, E8, hb⟩; have hq := bq (bq_r _) hb; replace t3 := t3.below hq t3.lt; replace t5 := t5.below hq t5.lt; replace t6 := t6.below hq t6.lt; replace C1 := C1.below hq; replace C2 := C2.below hq; replace bel := bel.trans (hq.mono bel.size); replace E7 := E7.below hq; (try replace tN := tN.below hb tN.lt); have zzt51 := t5.lt; have zzt61 := t6.lt; clear hb hq) | ((with_reducible refine (HM2.out _ _ _ _ _ _ _ (C1.below (al1 _ _)).b (C2.below (al1 _ _)).b).mono ?_); rintro e wa ⟨p8, A8, c8, l8, rfl, E8, hb⟩; have tN := ((Four.new_ _ (.bool false) (.slice none 0 0) (.bool false) (.slice none 0 0) 26)).below hb ((Four.new_ _ (.bool false) (.slice none 0 0) (.bool false) (.slice none 0 0) 26)).lt; have hq := bq (al1 _ _) hb; replace t3 := t3.below hq t3.lt; replace t5 := t5.below hq t5.lt; replace t6 := t6.below hq t6.lt; replace C1 := C1.below hq; replace C2 := C2.below hq; replace bel := bel.trans (hq.mono bel.size); replace E7 := E7.below hq; have zzt51 := t5.lt; have zzt61 := t6.lt; clear hb hq)))
        | (go_at_call 18; (first | ((with_reducible refine (HNW.out _ _ _ _ _ _ _ _ _ (E7.below (bq_r _)) (E8.below (bq_r _))).mono ?_); rintro e wa ⟨A9, c9, l9, B9, d9, m9, rfl, CC, hb⟩; have hq := bq (bq_r _) hb; replace t3 := t3.below hq t3.lt; replace t5 := t5.below hq t5.lt; replace t6 := t6.below hq t6.lt; replace C1 := C1.below hq; replace C2 := C2.below hq; replace bel := bel.trans (hq.mono bel.size); replace E7 := E7.below hq; replace E8 := E8.below hq; (try replace tN := tN.below hb tN.lt); have zzt52 := t5.lt; have zzt62 := t6.lt; (try have n0 := tN.c0); (try have n1 := tN.c1); (try have m0 := tN.fr 0); (try have m1 := tN.fr 1); (try have n2 := tN.c2); (try have n3 := tN.c3); (try have m2 := tN.fr 2); (try have m3 := tN.fr 3); (try have hg := tN.lt); clear hb hq) | ((with_reducible refine (HNW.out _ _ _ _ _ _ _ _ _ (E7.below (al1 _ _)) (E8.below (al1 _ _))).mono ?_); rintro e wa ⟨A9, c9, l9, B9, d9, m9, rfl, CC, hb⟩; have tN := ((Four.new_ _ (.bool false) (.slice none 0 0) (.bool false) (.slice none 0 0) 26)).below hb ((Four.new_ _ (.bool false) (.slice none 0 0) (.bool false) (.slice none 0 0) 26)).lt; have hq := bq (al1 _ _) hb; replace t3 := t3.below hq t3.lt; replace t5 := t5.below hq t5.lt; replace t6 := t6.below hq t6.lt; replace C1 := C1.below hq; replace C2 := C2.below hq; replace bel := bel.trans (hq.mono bel.size); replace E7 := E7.below hq; replace E8 := E8.below hq; have zzt52 := t5.lt; have zzt62 := t6.lt; (try have n0 := tN.c0); (try have n1 := tN.c1); (try have m0 := tN.fr 0); (try have m1 := tN.fr 1); (try have n2 := tN.c2); (try have n3 := tN.c3); (try have m2 := tN.fr 2); (try have m3 := tN.fr 3); (try have hg := tN.lt); clear hb hq))))
    all_goals
      go_wp2_with fail
      go_meet
      first
        | exact ⟨⟨_, _, _, _, _, _, _, rfl, by omega, Four.new_ _ _ _ _ _ _, CC.alloc _⟩, t3.alloc _, bel.alloc bel.size _⟩
        | exact ⟨⟨_, _, _, _, _, _, _, rfl, by omega, tN.put _ _ _ _, CC.put4 tN _ _ _ _⟩, t3.far4 (by omega) _ _ _ _, below_set4 bel (by omega) _ _ _ _⟩
  case rest =>
    obtain ⟨⟨g9, A9, c9, l9, B9, d9, m9, rfl, hg9, t9, C9⟩, t3, bel⟩ := hcut
    have e0 := t9.c0
    have e1 := t9.c1
    have e2 := t9.c2
    have e3 := t9.c3
    have d0 := t3.c0
    have d1 := t3.c1
    have d2 := t3.c2
    have d3 := t3.c3
    have f0 := t3.fr 0
    have f1 := t3.fr 1
    have f2 := t3.fr 2
    have f3 := t3.fr 3
    have R := Lib.hid (t3.put (.bool (decide (z.num < 0))) (.slice A9 l9.length c9) (.bool false) (.slice B9 m9.length d9))
    have CR := Lib.hid (C9.put4 t3 (.bool (decide (z.num < 0))) (.slice A9 l9.length c9) (.bool false) (.slice B9 m9.length d9))
    have BL := Lib.hid (below_set4 bel (b := w.heap.size + 2) (by omega) (.bool (decide (z.num < 0))) (.slice A9 l9.length c9) (.bool false) (.slice B9 m9.length d9))
    clear t9 t3 C9 bel
    go_wp2_with fail
    have r0 := R.out.c0
    have r1 := R.out.c1
    have r2 := R.out.c2
    have r3 := R.out.c3
    unfold set4 at r0 r1 r2 r3
    refine bodyPost_ret (v := .agg #[.bool (decide (z.num < 0)), .slice A9 l9.length c9, .bool false, .slice B9 m9.length d9]) (by simp [results, Tryz.results28, go_sem, r0, r1, r2, r3]) rfl ?_
    exact ⟨A9, c9, l9, B9, d9, m9, rfl, CR.out, BL.out⟩
end Go.Proofs.YtpfaddgcfacgdaaGreatDoor
/- Walks of package rational: Divide of the reference. -/
namespace Go.Proofs.YtpfaddgcfacgdaaGreatDoor
open Go.RowKit
set_option linter.unusedVariables false

set_option maxRecDepth 100000 in
set_option maxHeartbeats 2000000 in
theorem rrdiv {p1 : Bool} {A1 : Option Addr} {c1 : Nat} {l1 : List Nat} {q1 : Bool} {B1 : Option Addr} {d1 : Nat} {m1 : List Nat} {z1 : Rat} {p2 : Bool} {A2 : Option Addr} {c2 : Nat} {l2 : List Nat} {q2 : Bool} {B2 : Option Addr} {d2 : Nat} {m2 : List Nat} {z2 : Rat} {n k : Nat} {w : World} (h1 : Rv w p1 A1 c1 l1 q1 B1 d1 m1 z1 n) (h2 : Rv w p2 A2 c2 l2 q2 B2 d2 m2 z2 k) (hn : n ≤ 40) (hn1 : 1 ≤ n) (hk : k ≤ 40) (hk1 : 1 ≤ k) (h0 : z2 ≠ 0) :
    Calls Tryz.prog 22 #[ratV p1 A1 l1.length c1 q1 B1 m1.length d1, ratV p2 A2 l2.length c2 q2 B2 m2.length d2] w (GRc (z1 / z2) (n + k) w) := by
  have HN1 := Lib.hid hn1
  have HN := Lib.hid hn
  have HK := Lib.hid hk
  have HM1 := Lib.hid (fun (W : World) (A : Option Addr) (c : Nat) (l : List Nat) (Bb : Option Addr) (d : Nat) (m : List Nat) (h : Cn W (decide (z1.num < 0)) A c l z1.num n) (h' : Cn W false Bb d m (z2.den : Int) k) => grmul h.iv h'.iv (by have := HN.out; have := HK.out; omega) (by have := HN.out; have := HK.out; omega))
  have HM2 := Lib.hid (fun (W : World) (A : Option Addr) (c : Nat) (l : List Nat) (Bb : Option Addr) (d : Nat) (m : List Nat) (h : Cn W false A c l (z1.den : Int) n) (h' : Cn W (decide (z2.num < 0)) Bb d m z2.num k) => grmul h.iv h'.iv (by have := HN.out; have := HK.out; omega) (by have := HN.out; have := HK.out; omega))
  obtain ⟨z, hz⟩ : ∃ z, z = z1 / z2 := ⟨_, rfl⟩
  rw [← hz]
  have HNW := Lib.hid (fun (W : World) (pa : Bool) (Aa : Option Addr) (ca : Nat) (la : List Nat) (pb : Bool) (Ab : Option Addr) (cb : Nat) (lb : List Nat) (h : Cn W pa Aa ca la (z1.num * (z2.den : Int)) (n + k)) (h' : Cn W pb Ab cb lb ((z1.den : Int) * z2.num) (n + k)) => (by have h := grnew h.iv h'.iv (fun e => by rcases Int.mul_eq_zero.1 e with e | e; exact absurd e (Int.ne_of_gt (rq_den_pos z1)); exact h0 (Rat.num_eq_zero.1 e)) (by have := HN.out; have := HK.out; omega) (by have := HN1.out; omega); rw [← rq_div, rq_self, rq_self, ← hz] at h; exact h : Calls Tryz.prog 18 #[.agg #[.bool pa, .slice Aa la.length ca], .agg #[.bool pb, .slice Ab lb.length cb]] W (GRc z (n + k) W)))
  clear hz
  clear HN HK h0
  have HC1 := Lib.hid (fun (W : World) (h : Rv W p1 A1 c1 l1 q1 B1 d1 m1 z1 n) => rrcln h (by omega) hn1)
  have HC2 := Lib.hid (fun (W : World) (h : Rv W p2 A2 c2 l2 q2 B2 d2 m2 z2 k) => rrcln h (by omega) hk1)
  have HN := Lib.hid hn
  have HK := Lib.hid hk
  clear hn hn1 hk hk1
  unfold ratV
  go_enter Tryz.func22, Tryz.ntmps22
  go_wp2_with fail
  have t1 : Four (((w.alloc (.cells #[.bool p1, .slice A1 l1.length c1, .bool q1, .slice B1 m1.length d1] 26)).alloc (.cells #[.bool p2, .slice A2 l2.length c2, .bool q2, .slice B2 m2.length d2] 26)).alloc (.cells #[.bool false, .slice none 0 0, .bool false, .slice none 0 0] 26)) w.heap.size (.bool p1) (.slice A1 l1.length c1) (.bool q1) (.slice B1 m1.length d1) := ((Four.new_ w (.bool p1) (.slice A1 l1.length c1) (.bool q1) (.slice B1 m1.length d1) 26).alloc _).alloc _
  have t2 : Four (((w.alloc (.cells #[.bool p1, .slice A1 l1.length c1, .bool q1, .slice B1 m1.length d1] 26)).alloc (.cells #[.bool p2, .slice A2 l2.length c2, .bool q2, .slice B2 m2.length d2] 26)).alloc (.cells #[.bool false, .slice none 0 0, .bool false, .slice none 0 0] 26)) (w.heap.size + 1) (.bool p2) (.slice A2 l2.length c2) (.bool q2) (.slice B2 m2.length d2) := by simpa only [World.size_alloc, Nat.add_assoc, Nat.reduceAdd] using (Four.new_ (w.alloc (.cells #[.bool p1, .slice A1 l1.length c1, .bool q1, .slice B1 m1.length d1] 26)) (.bool p2) (.slice A2 l2.length c2) (.bool q2) (.slice B2 m2.length d2) 26).alloc _
  have t3 : Four (((w.alloc (.cells #[.bool p1, .slice A1 l1.length c1, .bool q1, .slice B1 m1.length d1] 26)).alloc (.cells #[.bool p2, .slice A2 l2.length c2, .bool q2, .slice B2 m2.length d2] 26)).alloc (.cells #[.bool false, .slice none 0 0, .bool false, .slice none 0 0] 26)) (w.heap.size + 2) (.bool false) (.slice none 0 0) (.bool false) (.slice none 0 0) := by simpa only [World.size_alloc, Nat.add_assoc, Nat.reduceAdd] using Four.new_ ((w.alloc (.cells #[.bool p1, .slice A1 l1.length c1, .bool q1, .slice B1 m1.length d1] 26)).alloc (.cells #[.bool p2, .slice A2 l2.length c2, .bool q2, .slice B2 m2.length d2] 26)) (.bool false) (.slice none 0 0) (.bool false) (.slice none 0 0) 26
  have bel : Below w.heap.size w (((w.alloc (.cells #[.bool p1, .slice A1 l1.length c1, .bool q1, .slice B1 m1.length d1] 26)).alloc (.cells #[.bool p2, .slice A2 l2.length c2, .bool q2, .slice B2 m2.length d2] 26)).alloc (.cells #[.bool false, .slice none 0 0, .bool false, .slice none 0 0] 26)) := (((Below.refl _ _).alloc (Nat.le_refl _) _).alloc (by simp only [World.size_alloc]; omega) _).alloc (by simp only [World.size_alloc]; omega) _
  generalize (((w.alloc (.cells #[.bool p1, .slice A1 l1.length c1, .bool q1, .slice B1 m1.length d1] 26)).alloc (.cells #[.bool p2, .slice A2 l2.length c2, .bool q2, .slice B2 m2.length d2] 26)).alloc (.cells #[.bool false, .slice none 0 0, .bool false, .slice none 0 0] 26)) = wx at t1 t2 t3 bel ⊢
  have X := h1.below bel
  have t1_0 := t1.c0
  have t1_1 := t1.c1
  have t1_2 := t1.c2
  have t1_3 := t1.c3
  go_wp2_with fail
  refine (HC1.out _ X).mono ?_
  rintro e w2 ⟨A5, c5, l5, B5, d5, m5, rfl, C1, hb⟩
  clear t1_0 t1_1 t1_2 t1_3
  clear t1
  replace t2 := t2.below hb t2.lt
  replace t3 := t3.below hb t3.lt
  replace bel := bel.trans (hb.mono bel.size)
  clear hb
  clear X
  go_upto_region 2 with (fail)
  have hg5 : w.heap.size + 2 < w2.heap.size := t3.lt
  have t5 : Four (w2.alloc (.cells #[.bool (decide (z1.num < 0)), .slice A5 l5.length c5, .bool false, .slice B5 m5.length d5] 26)) w2.heap.size (.bool (decide (z1.num < 0))) (.slice A5 l5.length c5) (.bool false) (.slice B5 m5.length d5) := Four.new_ w2 (.bool (decide (z1.num < 0))) (.slice A5 l5.length c5) (.bool false) (.slice B5 m5.length d5) 26
  have bn : Below w2.heap.size w2 (w2.alloc (.cells #[.bool (decide (z1.num < 0)), .slice A5 l5.length c5, .bool false, .slice B5 m5.length d5] 26)) := (Below.refl _ _).alloc (Nat.le_refl _) _
  replace t2 := t2.below bn t2.lt
  replace t3 := t3.below bn t3.lt
  replace bel := bel.trans (bn.mono bel.size)
  replace C1 := C1.below bn
  clear bn
  generalize (w2.alloc (.cells #[.bool (decide (z1.num < 0)), .slice A5 l5.length c5, .bool false, .slice B5 m5.length d5] 26)) = v1 at t2 t3 bel C1 t5 ⊢
  generalize w2.heap.size = g5 at t2 t3 bel C1 t5 hg5 ⊢
  have Y := h2.below bel
  have t2_0 := t2.c0
  have t2_1 := t2.c1
  have t2_2 := t2.c2
  have t2_3 := t2.c3
  go_wp2_with fail
  refine (HC2.out _ Y).mono ?_
  rintro e w3 ⟨A6, c6, l6, B6, d6, m6, rfl, C2, hb⟩
  clear t2_0 t2_1 t2_2 t2_3
  clear t2
  replace t3 := t3.below hb t3.lt
  replace bel := bel.trans (hb.mono bel.size)
  replace C1 := C1.below hb
  replace t5 := t5.below hb t5.lt
  clear hb
  clear Y
  go_upto_region 3 with (fail)
  have hg6 : g5 < w3.heap.size := t5.lt
  have t6 : Four (w3.alloc (.cells #[.bool (decide (z2.num < 0)), .slice A6 l6.length c6, .bool false, .slice B6 m6.length d6] 26)) w3.heap.size (.bool (decide (z2.num < 0))) (.slice A6 l6.length c6) (.bool false) (.slice B6 m6.length d6) := Four.new_ w3 (.bool (decide (z2.num < 0))) (.slice A6 l6.length c6) (.bool false) (.slice B6 m6.length d6) 26
  have bn : Below w3.heap.size w3 (w3.alloc (.cells #[.bool (decide (z2.num < 0)), .slice A6 l6.length c6, .bool false, .slice B6 m6.length d6] 26)) := (Below.refl _ _).alloc (Nat.le_refl _) _
  replace t3 := t3.below bn t3.lt
  replace bel := bel.trans (bn.mono bel.size)
  replace C1 := C1.below bn
  replace t5 := t5.below bn t5.lt
  replace C2 := C2.below bn
  clear bn
  generalize (w3.alloc (.cells #[.bool (decide (z2.num < 0)), .slice A6 l6.length c6, .bool false, .slice B6 m6.length d6] 26)) = v2 at t3 bel C1 t5 C2 t6 ⊢
  generalize w3.heap.size = g6 at t3 bel C1 t5 C2 t6 hg6 ⊢
  replace t3 := t3.drew
  replace bel := bDrew1 bel
  replace C1 := C1.drew
  replace t5 := t5.drew
  replace C2 := C2.drew
  replace t6 := t6.drew
  go_region_held3 (fun w' => w'.cell? ⟨g5, 0, none⟩ = some (.bool (decide (z1.num < 0))) ∧ w'.cell? ⟨g5, 1, none⟩ = some (.slice A5 l5.length c5) ∧ w'.cell? ⟨g5, 2, none⟩ = some (.bool false) ∧ w'.cell? ⟨g5, 3, none⟩ = some (.slice B5 m5.length d5) ∧ w'.cell? ⟨g6, 0, none⟩ = some (.bool (decide (z2.num < 0))) ∧ w'.cell? ⟨g6, 1, none⟩ = some (.slice A6 l6.length c6) ∧ w'.cell? ⟨g6, 2, none⟩ = some (.bool false) ∧ w'.cell? ⟨g6, 3, none⟩ = some (.slice B6 m6.length d6))
    (first | with_reducible exact ⟨t5.c0, t5.c1, t5.c2, t5.c3, t6.c0, t6.c1, t6.c2, t6.c3⟩ | exact ⟨K0.out.c0, K0.out.c1, K0.out.c2, K0.out.c3, K1.out.c0, K1.out.c1, K1.out.c2, K1.out.c3⟩)
    (first
      | (go_at_call 63; (with_reducible refine (HM1.out _ _ _ _ _ _ _ C1.a C2.b).mono ?_); rintro e wa ⟨p7, A7, c7, l7, rfl, E7, hb⟩; replace t3 := t3.below hb t3.lt; replace bel := bel.trans (hb.mono bel.size); replace C1 := C1.below hb; replace t5 := t5.below hb t5.lt; replace C2 := C2.below hb; replace t6 := t6.below hb t6.lt; clear hb)
      | (go_at_call 63; (with_reducible refine (HM2.out _ _ _ _ _ _ _ C1.b C2.a).mono ?_); rintro e wa ⟨p8, A8, c8, l8, rfl, E8, hb⟩; replace t3 := t3.below hb t3.lt; replace bel := bel.trans (hb.mono bel.size); replace C1 := C1.below hb; replace t5 := t5.below hb t5.lt; replace C2 := C2.below hb; replace t6 := t6.below hb t6.lt; replace E7 := E7.below hb; clear hb)
      | (go_at_call 18; (with_reducible refine (HNW.out _ _ _ _ _ _ _ _ _ E7 E8).mono ?_); rintro e wa ⟨A9, c9, l9, B9, d9, m9, rfl, CC, hb⟩; replace t3 := t3.below hb t3.lt; replace bel := bel.trans (hb.mono bel.size); replace C1 := C1.below hb; replace t5 := t5.below hb t5.lt; replace C2 := C2.below hb; replace t6 := t6.below hb t6.lt; clear hb
         have d0 := t3.c0
         have f0 := t3.fr 0
         have d1 := t3.c1
         have f1 := t3.fr 1
         have d2 := t3.c2
         have f2 := t3.fr 2
         have d3 := t3.c3
         have f3 := t3.fr 3
         have K0 := Lib.hid (t5.far4 (g := w.heap.size + 2) (by omega) (.bool (decide (z.num < 0))) (.slice A9 l9.length c9) (.bool false) (.slice B9 m9.length d9))
         have K1 := Lib.hid (t6.far4 (g := w.heap.size + 2) (by omega) (.bool (decide (z.num < 0))) (.slice A9 l9.length c9) (.bool false) (.slice B9 m9.length d9))
         have R := Lib.hid (t3.put (.bool (decide (z.num < 0))) (.slice A9 l9.length c9) (.bool false) (.slice B9 m9.length d9))
         have CR := Lib.hid (CC.put4 t3 (.bool (decide (z.num < 0))) (.slice A9 l9.length c9) (.bool false) (.slice B9 m9.length d9))
         have BL := Lib.hid (below_set4 bel (b := w.heap.size + 2) (by omega) (.bool (decide (z.num < 0))) (.slice A9 l9.length c9) (.bool false) (.slice B9 m9.length d9))))
  go_wp2_with fail
  have r0 := R.out.c0
  have r1 := R.out.c1
  have r2 := R.out.c2
  have r3 := R.out.c3
  unfold set4 at r0 r1 r2 r3
  refine bodyPost_ret (v := .tuple #[.agg #[.bool (decide (z.num < 0)), .slice A9 l9.length c9, .bool false, .slice B9 m9.length d9], .int .i64 0]) (by simp [results, Tryz.results22, go_sem, r0, r1, r2, r3]) rfl ?_
  exact ⟨A9, c9, l9, B9, d9, m9, rfl, CR.out, BL.out⟩

set_option maxRecDepth 100000 in
set_option maxHeartbeats 2000000 in
theorem rrdiv0 {p1 : Bool} {A1 : Option Addr} {c1 : Nat} {l1 : List Nat} {q1 : Bool} {B1 : Option Addr} {d1 : Nat} {m1 : List Nat} {z1 : Rat} {p2 : Bool} {A2 : Option Addr} {c2 : Nat} {l2 : List Nat} {q2 : Bool} {B2 : Option Addr} {d2 : Nat} {m2 : List Nat} {z2 : Rat} {n k : Nat} {w : World} (h1 : Rv w p1 A1 c1 l1 q1 B1 d1 m1 z1 n) (h2 : Rv w p2 A2 c2 l2 q2 B2 d2 m2 z2 k) (hn : n ≤ 40) (hn1 : 1 ≤ n) (hk : k ≤ 40) (hk1 : 1 ≤ k) (h0 : z2.num = 0) :
    Calls Tryz.prog 22 #[ratV p1 A1 l1.length c1 q1 B1 m1.length d1, ratV p2 A2 l2.length c2 q2 B2 m2.length d2] w (fun e w' => e = .returned (.tuple #[ratV false none 0 0 false none 0 0, .int .i64 3]) ∧ Below w.heap.size w w') := by
  have HN1 := Lib.hid hn1
  have HN := Lib.hid hn
  have HK := Lib.hid hk
  have HM1 := Lib.hid (fun (W : World) (A : Option Addr) (c : Nat) (l : List Nat) (Bb : Option Addr) (d : Nat) (m : List Nat) (h : Cn W (decide (z1.num < 0)) A c l z1.num n) (h' : Cn W false Bb d m (z2.den : Int) k) => grmul h.iv h'.iv (by have := HN.out; have := HK.out; omega) (by have := HN.out; have := HK.out; omega))
  have HM2 := Lib.hid (fun (W : World) (A : Option Addr) (c : Nat) (l : List Nat) (Bb : Option Addr) (d : Nat) (m : List Nat) (h : Cn W false A c l (z1.den : Int) n) (h' : Cn W (decide (z2.num < 0)) Bb d m z2.num k) => grmul h.iv h'.iv (by have := HN.out; have := HK.out; omega) (by have := HN.out; have := HK.out; omega))
  have HNW := Lib.hid (fun (W : World) (pa : Bool) (Aa : Option Addr) (ca : Nat) (la : List Nat) (pb : Bool) (Ab : Option Addr) (cb : Nat) (lb : List Nat) (h : Cn W pa Aa ca la (z1.num * (z2.den : Int)) (n + k)) (h' : Cn W pb Ab cb lb ((z1.den : Int) * z2.num) (n + k)) => (grnew0 h.iv h'.iv (by rw [h0]; exact Int.mul_zero _) (by have := HN.out; have := HK.out; omega) : Calls Tryz.prog 18 #[.agg #[.bool pa, .slice Aa la.length ca], .agg #[.bool pb, .slice Ab lb.length cb]] W fun e w' => e = .returned (.tuple #[.agg #[.bool false, .slice none 0 0, .bool false, .slice none 0 0], .int .i64 3]) ∧ Below W.heap.size W w'))
  clear HN HK h0
  have HC1 := Lib.hid (fun (W : World) (h : Rv W p1 A1 c1 l1 q1 B1 d1 m1 z1 n) => rrcln h (by omega) hn1)
  have HC2 := Lib.hid (fun (W : World) (h : Rv W p2 A2 c2 l2 q2 B2 d2 m2 z2 k) => rrcln h (by omega) hk1)
  have HN := Lib.hid hn
  have HK := Lib.hid hk
  clear hn hn1 hk hk1
  unfold ratV
  go_enter Tryz.func22, Tryz.ntmps22
  go_wp2_with fail
  have t1 : Four (((w.alloc (.cells #[.bool p1, .slice A1 l1.length c1, .bool q1, .slice B1 m1.length d1] 26)).alloc (.cells #[.bool p2, .slice A2 l2.length c2, .bool q2, .slice B2 m2.length d2] 26)).alloc (.cells #[.bool false, .slice none 0 0, .bool false, .slice none 0 0] 26)) w.heap.size (.bool p1) (.slice A1 l1.length c1) (.bool q1) (.slice B1 m1.length d1) := ((Four.new_ w (.bool p1) (.slice A1 l1.length c1) (.bool q1) (.slice B1 m1.length d1) 26).alloc _).alloc _
  have t2 : Four (((w.alloc (.cells #[.bool p1, .slice A1 l1.length c1, .bool q1, .slice B1 m1.length d1] 26)).alloc (.cells #[.bool p2, .slice A2 l2.length c2, .bool q2, .slice B2 m2.length d2] 26)).alloc (.cells #[.bool false, .slice none 0 0, .bool false, .slice none 0 0] 26)) (w.heap.size + 1) (.bool p2) (.slice A2 l2.length c2) (.bool q2) (.slice B2 m2.length d2) := by simpa only [World.size_alloc, Nat.add_assoc, Nat.reduceAdd] using (Four.new_ (w.alloc (.cells #[.bool p1, .slice A1 l1.length c1, .bool q1, .slice B1 m1.length d1] 26)) (.bool p2) (.slice A2 l2.length c2) (.bool q2) (.slice B2 m2.length d2) 26).alloc _
  have t3 : Four (((w.alloc (.cells #[.bool p1, .slice A1 l1.length c1, .bool q1, .slice B1 m1.length d1] 26)).alloc (.cells #[.bool p2, .slice A2 l2.length c2, .bool q2, .slice B2 m2.length d2] 26)).alloc (.cells #[.bool false, .slice none 0 0, .bool false, .slice none 0 0] 26)) (w.heap.size + 2) (.bool false) (.slice none 0 0) (.bool false) (.slice none 0 0) := by simpa only [World.size_alloc, Nat.add_assoc, Nat.reduceAdd] using Four.new_ ((w.alloc (.cells #[.bool p1, .slice A1 l1.length c1, .bool q1, .slice B1 m1.length d1] 26)).alloc (.cells #[.bool p2, .slice A2 l2.length c2, .bool q2, .slice B2 m2.length d2] 26)) (.bool false) (.slice none 0 0) (.bool false) (.slice none 0 0) 26
  have bel : Below w.heap.size w (((w.alloc (.cells #[.bool p1, .slice A1 l1.length c1, .bool q1, .slice B1 m1.length d1] 26)).alloc (.cells #[.bool p2, .slice A2 l2.length c2, .bool q2, .slice B2 m2.length d2] 26)).alloc (.cells #[.bool false, .slice none 0 0, .bool false, .slice none 0 0] 26)) := (((Below.refl _ _).alloc (Nat.le_refl _) _).alloc (by simp only [World.size_alloc]; omega) _).alloc (by simp only [World.size_alloc]; omega) _
  generalize (((w.alloc (.cells #[.bool p1, .slice A1 l1.length c1, .bool q1, .slice B1 m1.length d1] 26)).alloc (.cells #[.bool p2, .slice A2 l2.length c2, .bool q2, .slice B2 m2.length d2] 26)).alloc (.cells #[.bool false, .slice none 0 0, .bool false, .slice none 0 0] 26)) = wx at t1 t2 t3 bel ⊢
  have X := h1.below bel
  have t1_0 := t1.c0
  have t1_1 := t1.c1
  have t1_2 := t1.c2
  have t1_3 := t1.c3
  go_wp2_with fail
  refine (HC1.out _ X).mono ?_
  rintro e w2 ⟨A5, c5, l5, B5, d5, m5, rfl, C1, hb⟩
  clear t1_0 t1_1 t1_2 t1_3
  clear t1
  replace t2 := t2.below hb t2.lt
  replace t3 := t3.below hb t3.lt
  replace bel := bel.trans (hb.mono bel.size)
  clear hb
  clear X
  go_upto_region 2 with (fail)
  have hg5 : w.heap.size + 2 < w2.heap.size := t3.lt
  have t5 : Four (w2.alloc (.cells #[.bool (decide (z1.num < 0)), .slice A5 l5.length c5, .bool false, .slice B5 m5.length d5] 26)) w2.heap.size (.bool (decide (z1.num < 0))) (.slice A5 l5.length c5) (.bool false) (.slice B5 m5.length d5) := Four.new_ w2 (.bool (decide (z1.num < 0))) (.slice A5 l5.length c5) (.bool false) (.slice B5 m5.length d5) 26
  have bn : Below w2.heap.size w2 (w2.alloc (.cells #[.bool (decide (z1.num < 0)), .slice A5 l5.length c5, .bool false, .slice B5 m5.length d5] 26)) := (Below.refl _ _).alloc (Nat.le_refl _) _
  replace t2 := t2.below bn t2.lt
  replace t3 := t3.below bn t3.lt
  replace bel := bel.trans (bn.mono bel.size)
  replace C1 := C1.below bn
  clear bn
  generalize (w2.alloc (.cells #[.bool (decide (z1.num < 0)), .slice A5 l5.length c5, .bool false, .slice B5 m5.length d5] 26)) = v1 at t2 t3 bel C1 t5 ⊢
  generalize w2.heap.size = g5 at t2 t3 bel C1 t5 hg5 ⊢
  have Y := h2.below bel
  have t2_0 := t2.c0
  have t2_1 := t2.c1
  have t2_2 := t2.c2
  have t2_3 := t2.c3
  go_wp2_with fail
  refine (HC2.out _ Y).mono ?_
  rintro e w3 ⟨A6, c6, l6, B6, d6, m6, rfl, C2, hb⟩
  clear t2_0 t2_1 t2_2 t2_3
  clear t2
  replace t3 := t3.below hb t3.lt
  replace bel := bel.trans (hb.mono bel.size)
  replace C1 := C1.below hb
  replace t5 := t5.below hb t5.lt
  clear hb
  clear Y
  go_upto_region 3 with (fail)
  have hg6 : g5 < w3.heap.size := t5.lt
  have t6 : Four (w3.alloc (.cells #[.bool (decide (z2.num < 0)), .slice A6 l6.length c6, .bool false, .slice B6 m6.length d6] 26)) w3.heap.size (.bool (decide (z2.num < 0))) (.slice A6 l6.length c6) (.bool false) (.slice B6 m6.length d6) := Four.new_ w3 (.bool (decide (z2.num < 0))) (.slice A6 l6.length c6) (.bool false) (.slice B6 m6.length d6) 26
  have bn : Below w3.heap.size w3 (w3.alloc (.cells #[.bool (decide (z2.num < 0)), .slice A6 l6.length c6, .bool false, .slice B6 m6.length d6] 26)) := (Below.refl _ _).alloc (Nat.le_refl _) _
  replace t3 := t3.below bn t3.lt
  replace bel := bel.trans (bn.mono bel.size)
  replace C1 := C1.below bn
  replace t5 := t5.below bn t5.lt
  replace C2 := C2.below bn
  clear bn
  generalize (w3.alloc (.cells #[.bool (decide (z2.num < 0)), .slice A6 l6.length c6, .bool false, .slice B6 m6.length d6] 26)) = v2 at t3 bel C1 t5 C2 t6 ⊢
  generalize w3.heap.size = g6 at t3 bel C1 t5 C2 t6 hg6 ⊢
  replace t3 := t3.drew
  replace bel := bDrew1 bel
  replace C1 := C1.drew
  replace t5 := t5.drew
  replace C2 := C2.drew
  replace t6 := t6.drew
  go_region_held3 (fun w' => w'.cell? ⟨g5, 0, none⟩ = some (.bool (decide (z1.num < 0))) ∧ w'.cell? ⟨g5, 1, none⟩ = some (.slice A5 l5.length c5) ∧ w'.cell? ⟨g5, 2, none⟩ = some (.bool false) ∧ w'.cell? ⟨g5, 3, none⟩ = some (.slice B5 m5.length d5) ∧ w'.cell? ⟨g6, 0, none⟩ = some (.bool (decide (z2.num < 0))) ∧ w'.cell? ⟨g6, 1, none⟩ = some (.slice A6 l6.length c6) ∧ w'.cell? ⟨g6, 2, none⟩ = some (.bool false) ∧ w'.cell? ⟨g6, 3, none⟩ = some (.slice B6 m6.length d6))
    (first | with_reducible exact ⟨t5.c0, t5.c1, t5.c2, t5.c3, t6.c0, t6.c1, t6.c2, t6.c3⟩ | exact ⟨K0.out.c0, K0.out.c1, K0.out.c2, K0.out.c3, K1.out.c0, K1.out.c1, K1.out.c2, K1.out.c3⟩)
    (first
      | (go_at_call 63; (with_reducible refine (HM1.out _ _ _ _ _ _ _ C1.a C2.b).mono ?_); rintro e wa ⟨p7, A7, c7, l7, rfl, E7, hb⟩; replace t3 := t3.below hb t3.lt; replace bel := bel.trans (hb.mono bel.size); replace C1 := C1.below hb; replace t5 := t5.below hb t5.lt; replace C2 := C2.below hb; replace t6 := t6.below hb t6.lt; clear hb)
      | (go_at_call 63; (with_reducible refine (HM2.out _ _ _ _ _ _ _ C1.b C2.a).mono ?_); rintro e wa ⟨p8, A8, c8, l8, rfl, E8, hb⟩; replace t3 := t3.below hb t3.lt; replace bel := bel.trans (hb.mono bel.size); replace C1 := C1.below hb; replace t5 := t5.below hb t5.lt; replace C2 := C2.below hb; replace t6 := t6.below hb t6.lt; replace E7 := E7.below hb; clear hb)
      | (go_at_call 18; (with_reducible refine (HNW.out _ _ _ _ _ _ _ _ _ E7 E8).mono ?_); rintro e wa ⟨rfl, hb⟩; replace t3 := t3.below hb t3.lt; replace bel := bel.trans (hb.mono bel.size); replace C1 := C1.below hb; replace t5 := t5.below hb t5.lt; replace C2 := C2.below hb; replace t6 := t6.below hb t6.lt; clear hb
         have d0 := t3.c0
         have f0 := t3.fr 0
         have d1 := t3.c1
         have f1 := t3.fr 1
         have d2 := t3.c2
         have f2 := t3.fr 2
         have d3 := t3.c3
         have f3 := t3.fr 3
         have K0 := Lib.hid (t5.far4 (g := w.heap.size + 2) (by omega) (.bool false) (.slice none 0 0) (.bool false) (.slice none 0 0))
         have K1 := Lib.hid (t6.far4 (g := w.heap.size + 2) (by omega) (.bool false) (.slice none 0 0) (.bool false) (.slice none 0 0))
         have R := Lib.hid (t3.put (.bool false) (.slice none 0 0) (.bool false) (.slice none 0 0))
         have BL := Lib.hid (below_set4 bel (b := w.heap.size + 2) (by omega) (.bool false) (.slice none 0 0) (.bool false) (.slice none 0 0))))
  go_wp2_with fail
  have r0 := R.out.c0
  have r1 := R.out.c1
  have r2 := R.out.c2
  have r3 := R.out.c3
  unfold set4 at r0 r1 r2 r3
  refine bodyPost_ret (v := .tuple #[.agg #[.bool false, .slice none 0 0, .bool false, .slice none 0 0], .int .i64 3]) (by simp [results, Tryz.results22, go_sem, r0, r1, r2, r3]) rfl ?_
  exact ⟨rfl, BL.out⟩
end Go.Proofs.YtpfaddgcfacgdaaGreatDoor
/- Walks of package rational: Add of the reference. -/
namespace Go.Proofs.YtpfaddgcfacgdaaGreatDoor
open Go.RowKit
set_option linter.unusedVariables false

/-- an integer in a new box -/
def Bn (hi : Nat) (x : Int) (n : Nat) (s : Value) (W : World) : Prop := ∃ g p A c l, s = .pointer (some ⟨g, 0, none⟩) ∧ hi < g ∧ Two W g (.bool p) (.slice A l.length c) ∧ Cn W p A c l x n

set_option maxRecDepth 100000 in
set_option maxHeartbeats 2000000 in
theorem rradd {p1 : Bool} {A1 : Option Addr} {c1 : Nat} {l1 : List Nat} {q1 : Bool} {B1 : Option Addr} {d1 : Nat} {m1 : List Nat} {z1 : Rat} {p2 : Bool} {A2 : Option Addr} {c2 : Nat} {l2 : List Nat} {q2 : Bool} {B2 : Option Addr} {d2 : Nat} {m2 : List Nat} {z2 : Rat} {n k : Nat} {w : World} (h1 : Rv w p1 A1 c1 l1 q1 B1 d1 m1 z1 n) (h2 : Rv w p2 A2 c2 l2 q2 B2 d2 m2 z2 k) (hn : n ≤ 40) (hn1 : 1 ≤ n) (hk : k ≤ 40) (hk1 : 1 ≤ k) :
    Calls Tryz.prog 24 #[ratV p1 A1 l1.length c1 q1 B1 m1.length d1, ratV p2 A2 l2.length c2 q2 B2 m2.length d2] w (GR (z1 + z2) (n + k + 1) w) := by
  have HN1 := Lib.hid hn1
  obtain ⟨z, hz⟩ : ∃ z, z = z1 + z2 := ⟨_, rfl⟩
  rw [← hz]
  have HZ := Lib.hid hz
  clear hz
  have HN := Lib.hid hn
  have HK := Lib.hid hk
  have HM1 := Lib.hid (fun (W : World) (A : Option Addr) (c : Nat) (l : List Nat) (Bb : Option Addr) (d : Nat) (m : List Nat) (h : Cn W (decide (z1.num < 0)) A c l z1.num n) (h' : Cn W false Bb d m (z2.den : Int) k) => grmul h.iv h'.iv (by have := HN.out; have := HK.out; omega) (by have := HN.out; have := HK.out; omega))
  have HM2 := Lib.hid (fun (W : World) (A : Option Addr) (c : Nat) (l : List Nat) (Bb : Option Addr) (d : Nat) (m : List Nat) (h : Cn W (decide (z2.num < 0)) A c l z2.num k) (h' : Cn W false Bb d m (z1.den : Int) n) => grmul h.iv h'.iv (by have := HN.out; have := HK.out; omega) (by have := HN.out; have := HK.out; omega))
  have HM3 := Lib.hid (fun (W : World) (A : Option Addr) (c : Nat) (l : List Nat) (Bb : Option Addr) (d : Nat) (m : List Nat) (h : Cn W false A c l (z1.den : Int) n) (h' : Cn W false Bb d m (z2.den : Int) k) => grmul h.iv h'.iv (by have := HN.out; have := HK.out; omega) (by have := HN.out; have := HK.out; omega))
  have HAD := Lib.hid (fun (W : World) (pa : Bool) (Aa : Option Addr) (ca : Nat) (la : List Nat) (pb : Bool) (Ab : Option Addr) (cb : Nat) (lb : List Nat) (h : Cn W pa Aa ca la (z1.num * (z2.den : Int)) (n + k)) (h' : Cn W pb Ab cb lb (z2.num * (z1.den : Int)) (k + n)) => (by have h := gradd h.iv h'.iv (by have := HN.out; have := HK.out; omega) (by have := HN.out; have := HK.out; omega); rw [show max (n + k) (k + n) + 1 = n + k + 1 by omega] at h; exact h : Calls Tryz.prog 66 #[.agg #[.bool pa, .slice Aa la.length ca], .agg #[.bool pb, .slice Ab lb.length cb]] W (GI (z1.num * (z2.den : Int) + z2.num * (z1.den : Int)) (n + k + 1) W)))
  have HNW := Lib.hid (fun (W : World) (pa : Bool) (Aa : Option Addr) (ca : Nat) (la : List Nat) (pb : Bool) (Ab : Option Addr) (cb : Nat) (lb : List Nat) (h : Cn W pa Aa ca la (z1.num * (z2.den : Int) + z2.num * (z1.den : Int)) (n + k + 1)) (h' : Cn W pb Ab cb lb ((z1.den : Int) * (z2.den : Int)) (n + k)) => (by have h := grnew h.iv (h'.iv.more (Nat.le_succ _)) (Int.ne_of_gt (Int.mul_pos (rq_den_pos z1) (rq_den_pos z2))) (by have := HN.out; have := HK.out; omega) (by omega); rw [← Rat.divInt_add_divInt _ _ (by have := rq_den_pos z1; omega) (by have := rq_den_pos z2; omega), rq_self, rq_self, ← HZ.out] at h; exact h : Calls Tryz.prog 18 #[.agg #[.bool pa, .slice Aa la.length ca], .agg #[.bool pb, .slice Ab lb.length cb]] W (GRc z (n + k + 1) W)))
  obtain ⟨N, hN⟩ : ∃ N : Int, N = z1.num * (z2.den : Int) + z2.num * (z1.den : Int) := ⟨_, rfl⟩
  rw [← hN] at HAD HNW
  clear hN
  clear HN HK
  have HC1 := Lib.hid (fun (W : World) (h : Rv W p1 A1 c1 l1 q1 B1 d1 m1 z1 n) => rrcln h (by omega) hn1)
  have HC2 := Lib.hid (fun (W : World) (h : Rv W p2 A2 c2 l2 q2 B2 d2 m2 z2 k) => rrcln h (by omega) hk1)
  have HN := Lib.hid hn
  have HK := Lib.hid hk
  clear hn hn1 hk hk1
  unfold ratV
  go_enter Tryz.func24, Tryz.ntmps24
  go_wp2_with fail
  have t1 : Four (((w.alloc (.cells #[.bool p1, .slice A1 l1.length c1, .bool q1, .slice B1 m1.length d1] 26)).alloc (.cells #[.bool p2, .slice A2 l2.length c2, .bool q2, .slice B2 m2.length d2] 26)).alloc (.cells #[.bool false, .slice none 0 0, .bool false, .slice none 0 0] 26)) w.heap.size (.bool p1) (.slice A1 l1.length c1) (.bool q1) (.slice B1 m1.length d1) := ((Four.new_ w (.bool p1) (.slice A1 l1.length c1) (.bool q1) (.slice B1 m1.length d1) 26).alloc _).alloc _
  have t2 : Four (((w.alloc (.cells #[.bool p1, .slice A1 l1.length c1, .bool q1, .slice B1 m1.length d1] 26)).alloc (.cells #[.bool p2, .slice A2 l2.length c2, .bool q2, .slice B2 m2.length d2] 26)).alloc (.cells #[.bool false, .slice none 0 0, .bool false, .slice none 0 0] 26)) (w.heap.size + 1) (.bool p2) (.slice A2 l2.length c2) (.bool q2) (.slice B2 m2.length d2) := by simpa only [World.size_alloc, Nat.add_assoc, Nat.reduceAdd] using (Four.new_ (w.alloc (.cells #[.bool p1, .slice A1 l1.length c1, .bool q1, .slice B1 m1.length d1] 26)) (.bool p2) (.slice A2 l2.length c2) (.bool q2) (.slice B2 m2.length d2) 26).alloc _
  have t3 : Four (((w.alloc (.cells #[.bool p1, .slice A1 l1.length c1, .bool q1, .slice B1 m1.length d1] 26)).alloc (.cells #[.bool p2, .slice A2 l2.length c2, .bool q2, .slice B2 m2.length d2] 26)).alloc (.cells #[.bool false, .slice none 0 0, .bool false, .slice none 0 0] 26)) (w.heap.size + 2) (.bool false) (.slice none 0 0) (.bool false) (.slice none 0 0) := by simpa only [World.size_alloc, Nat.add_assoc, Nat.reduceAdd] using Four.new_ ((w.alloc (.cells #[.bool p1, .slice A1 l1.length c1, .bool q1, .slice B1 m1.length d1] 26)).alloc (.cells #[.bool p2, .slice A2 l2.length c2, .bool q2, .slice B2 m2.length d2] 26)) (.bool false) (.slice none 0 0) (.bool false) (.slice none 0 0) 26
  have bel : Below w.heap.size w (((w.alloc (.cells #[.bool p1, .slice A1 l1.length c1, .bool q1, .slice B1 m1.length d1] 26)).alloc (.cells #[.bool p2, .slice A2 l2.length c2, .bool q2, .slice B2 m2.length d2] 26)).alloc (.cells #[.bool false, .slice none 0 0, .bool false, .slice none 0 0] 26)) := (((Below.refl _ _).alloc (Nat.le_refl _) _).alloc (by simp only [World.size_alloc]; omega) _).alloc (by simp only [World.size_alloc]; omega) _
  generalize (((w.alloc (.cells #[.bool p1, .slice A1 l1.length c1, .bool q1, .slice B1 m1.length d1] 26)).alloc (.cells #[.bool p2, .slice A2 l2.length c2, .bool q2, .slice B2 m2.length d2] 26)).alloc (.cells #[.bool false, .slice none 0 0, .bool false, .slice none 0 0] 26)) = wx at t1 t2 t3 bel ⊢
  have X := h1.below bel
  have t1_0 := t1.c0
  have t1_1 := t1.c1
  have t1_2 := t1.c2
  have t1_3 := t1.c3
  go_wp2_with fail
  refine (HC1.out _ X).mono ?_
  rintro e w2 ⟨A5, c5, l5, B5, d5, m5, rfl, C1, hb⟩
  clear t1_0 t1_1 t1_2 t1_3
  clear t1
  replace t2 := t2.below hb t2.lt
  replace t3 := t3.below hb t3.lt
  replace bel := bel.trans (hb.mono bel.size)
  clear hb
  clear X
  go_upto_region 2 with (fail)
  have hg5 : w.heap.size + 2 < w2.heap.size := t3.lt
  have t5 : Four (w2.alloc (.cells #[.bool (decide (z1.num < 0)), .slice A5 l5.length c5, .bool false, .slice B5 m5.length d5] 26)) w2.heap.size (.bool (decide (z1.num < 0))) (.slice A5 l5.length c5) (.bool false) (.slice B5 m5.length d5) := Four.new_ w2 (.bool (decide (z1.num < 0))) (.slice A5 l5.length c5) (.bool false) (.slice B5 m5.length d5) 26
  have bn : Below w2.heap.size w2 (w2.alloc (.cells #[.bool (decide (z1.num < 0)), .slice A5 l5.length c5, .bool false, .slice B5 m5.length d5] 26)) := (Below.refl _ _).alloc (Nat.le_refl _) _
  replace t2 := t2.below bn t2.lt
  replace t3 := t3.below bn t3.lt
  replace bel := bel.trans (bn.mono bel.size)
  replace C1 := C1.below bn
  clear bn
  generalize (w2.alloc (.cells #[.bool (decide (z1.num < 0)), .slice A5 l5.length c5, .bool false, .slice B5 m5.length d5] 26)) = v1 at t2 t3 bel C1 t5 ⊢
  generalize w2.heap.size = g5 at t2 t3 bel C1 t5 hg5 ⊢
  have Y := h2.below bel
  have t2_0 := t2.c0
  have t2_1 := t2.c1
  have t2_2 := t2.c2
  have t2_3 := t2.c3
  go_wp2_with fail
  refine (HC2.out _ Y).mono ?_
  rintro e w3 ⟨A6, c6, l6, B6, d6, m6, rfl, C2, hb⟩
  clear t2_0 t2_1 t2_2 t2_3
  clear t2
  replace t3 := t3.below hb t3.lt
  replace bel := bel.trans (hb.mono bel.size)
  replace C1 := C1.below hb
  replace t5 := t5.below hb t5.lt
  clear hb
  clear Y
  go_upto_region 3 with (fail)
  have hg6 : g5 < w3.heap.size := t5.lt
  have t6 : Four (w3.alloc (.cells #[.bool (decide (z2.num < 0)), .slice A6 l6.length c6, .bool false, .slice B6 m6.length d6] 26)) w3.heap.size (.bool (decide (z2.num < 0))) (.slice A6 l6.length c6) (.bool false) (.slice B6 m6.length d6) := Four.new_ w3 (.bool (decide (z2.num < 0))) (.slice A6 l6.length c6) (.bool false) (.slice B6 m6.length d6) 26
  have bn : Below w3.heap.size w3 (w3.alloc (.cells #[.bool (decide (z2.num < 0)), .slice A6 l6.length c6, .bool false, .slice B6 m6.length d6] 26)) := (Below.refl _ _).alloc (Nat.le_refl _) _
  replace t3 := t3.below bn t3.lt
  replace bel := bel.trans (bn.mono bel.size)
  replace C1 := C1.below bn
  replace t5 := t5.below bn t5.lt
  replace C2 := C2.below bn
  clear bn
  generalize (w3.alloc (.cells #[.bool (decide (z2.num < 0)), .slice A6 l6.length c6, .bool false, .slice B6 m6.length d6] 26)) = v2 at t3 bel C1 t5 C2 t6 ⊢
  generalize w3.heap.size = g6 at t3 bel C1 t5 C2 t6 hg6 ⊢
  go_cut [7] (fun s wx => Bn g6 N (n + k + 1) s wx ∧ Four wx (w.heap.size + 2) (.bool false) (.slice none 0 0) (.bool false) (.slice none 0 0) ∧ Four wx g5 (.bool (decide (z1.num < 0))) (.slice A5 l5.length c5) (.bool false) (.slice B5 m5.length d5) ∧ Four wx g6 (.bool (decide (z2.num < 0))) (.slice A6 l6.length c6) (.bool false) (.slice B6 m6.length d6) ∧ Cr wx A5 c5 l5 B5 d5 m5 z1 n ∧ Cr wx A6 c6 l6 B6 d6 m6 z2 k ∧ Below w.heap.size w wx)
  case first =>
    have zz := t6.lt
    have zzt5 := t5.lt
    go_region_held3 (fun w' => w'.cell? ⟨g5, 0, none⟩ = some (.bool (decide (z1.num < 0))) ∧ w'.cell? ⟨g5, 1, none⟩ = some (.slice A5 l5.length c5) ∧ w'.cell? ⟨g5, 2, none⟩ = some (.bool false) ∧ w'.cell? ⟨g5, 3, none⟩ = some (.slice B5 m5.length d5) ∧ w'.cell? ⟨g6, 0, none⟩ = some (.bool (decide (z2.num < 0))) ∧ w'.cell? ⟨g6, 1, none⟩ = some (.slice A6 l6.length c6) ∧ w'.cell? ⟨g6, 2, none⟩ = some (.bool false) ∧ w'.cell? ⟨g6, 3, none⟩ = some (.slice B6 m6.length d6))
      ((repeat' (first | (with_reducible refine And.intro ?_ ?_) | (with_reducible refine far4c ?_ ?_) | (with_reducible refine far2c ?_ ?_) | (with_reducible refine cell_allocc ?_) | (with_reducible refine cell_drewc ?_))) <;> (first | (with_reducible exact t5.c0) | (with_reducible exact t5.c1) | (with_reducible exact t5.c2) | (with_reducible exact t5.c3) | (with_reducible exact t6.c0) | (with_reducible exact t6.c1) | (with_reducible exact t6.c2) | (with_reducible exact t6.c3) | omega | (simp; omega)))
      (first
        | (go_at_call 63; (first | ((with_reducible refine (HM1.out _ _ _ _ _ _ _ (C1.below (bq_d _)).a (C2.below (bq_d _)).b).mono ?_); rintro e wa ⟨p7, A7, c7, l7, rfl, E7, hb⟩; have hq := bq (bq_d _) hb; replace t3 := t3.below hq t3.lt; replace t5 := t5.below hq t5.lt; replace t6 := t6.below hq t6.lt; replace C1 := C1.below hq; replace C2 := C2.below hq; replace bel := bel.trans (hq.mono bel.size); have zzt50 := t5.lt; have zzt60 := t6.lt; clear hb hq) | ((with_reducible refine (HM1.out _ _ _ _ _ _ _ (C1.below (bq_da _ _)).a (C2.below (bq_da _ _)).b).mono ?_); rintro e wa ⟨p7, A7, c7, l7, rfl, E7, hb⟩; have tN := ((Two.new_ _ (.bool false) (.slice none 0 0) 24).drew).below hb ((Two.new_ _ (.bool false) (.slice none 0 0) 24).drew).lt; have hq := bq (bq_da _ _) hb; replace t3 := t3.below hq t3.lt; replace t5 := t5.below hq t5.lt; replace t6 := t6.below hq t6.lt; replace C1 := C1.below hq; replace C2 := C2.below hq; replace bel := bel.trans (hq.mono bel.size); have zzt50 := t5.lt; have zzt60 := t6.lt; clear hb hq)))
        | (go_at_call 63; (first | ((with_reducible refine (HM2.out _ _ _ _ _ _ _ (C2.below (bq_r _)).a (C1.below (bq_r _)).b).mono ?_); rintro e wa ⟨p8, A8, c8, l8, rfl, E8, hb⟩; have hq := bq (bq_r _) hb; replace t3 := t3.below hq t3.lt; replace t5 := t5.below hq t5.lt; replace t6 := t6.below hq t6.lt; replace C1 := C1.below hq; replace C2 := C2.below hq; replace bel := bel.trans (hq.mono bel.size); replace E7 := E7.below hq; (try replace tN := tN.below hb tN.lt); have zzt51 := t5.lt; have zzt61 := t6.lt; clear hb hq) | ((with_reducible refine (HM2.out _ _ _ _ _ _ _ (C2.below (al1 _ _)).a (C1.below (al1 _ _)).b).mono ?_); rintro e wa ⟨p8, A8, c8, l8, rfl, E8, hb⟩; have tN := ((Two.new_ _ (.bool false) (.slice none 0 0) 24)).below hb ((Two.new_ _ (.bool false) (.slice none 0 0) 24)).lt; have hq := bq (al1 _ _) hb; replace t3 := t3.below hq t3.lt; replace t5 := t5.below hq t5.lt; replace t6 := t6.below hq t6.lt; replace C1 := C1.below hq; replace C2 := C2.below hq; replace bel := bel.trans (hq.mono bel.size); replace E7 := E7.below hq; have zzt51 := t5.lt; have zzt61 := t6.lt; clear hb hq)))
        | (go_at_call 66; (first | ((with_reducible refine (HAD.out _ _ _ _ _ _ _ _ _ (E7.below (bq_r _)) (E8.below (bq_r _))).mono ?_); rintro e wa ⟨p9, A9, c9, l9, rfl, CC, hb⟩; have hq := bq (bq_r _) hb; replace t3 := t3.below hq t3.lt; replace t5 := t5.below hq t5.lt; replace t6 := t6.below hq t6.lt; replace C1 := C1.below hq; replace C2 := C2.below hq; replace bel := bel.trans (hq.mono bel.size); replace E7 := E7.below hq; replace E8 := E8.below hq; (try replace tN := tN.below hb tN.lt); have zzt52 := t5.lt; have zzt62 := t6.lt; (try have n0 := tN.c0); (try have n1 := tN.c1); (try have m0 := tN.fr 0); (try have m1 := tN.fr 1); (try have hg := tN.lt); clear hb hq) | ((with_reducible refine (HAD.out _ _ _ _ _ _ _ _ _ (E7.below (al1 _ _)) (E8.below (al1 _ _))).mono ?_); rintro e wa ⟨p9, A9, c9, l9, rfl, CC, hb⟩; have tN := ((Two.new_ _ (.bool false) (.slice none 0 0) 24)).below hb ((Two.new_ _ (.bool false) (.slice none 0 0) 24)).lt; have hq := bq (al1 _ _) hb; replace t3 := t3.below hq t3.lt; replace t5 := t5.below hq t5.lt; replace t6 := t6.below hq t6.lt; replace C1 := C1.below hq; replace C2 := C2.below hq; replace bel := bel.trans (hq.mono bel.size); replace E7 := E7.below hq; replace E8 := E8.below hq; have zzt52 := t5.lt; have zzt62 := t6.lt; (try have n0 := tN.c0); (try have n1 := tN.c1); (try have m0 := tN.fr 0); (try have m1 := tN.fr 1); (try have hg := tN.lt); clear hb hq))))
    all_goals
      go_wp2_with fail
      go_meet
      first
        | exact ⟨⟨_, _, _, _, _, rfl, by omega, Two.new_ _ _ _ _, CC.alloc _⟩, t3.alloc _, t5.alloc _, t6.alloc _, C1.alloc _, C2.alloc _, bel.alloc bel.size _⟩
        | exact ⟨⟨_, _, _, _, _, rfl, by omega, tN.put2 _ _, CC.put2 tN _ _⟩, t3.far2 (by omega) _ _, t5.far2 (by omega) _ _, t6.far2 (by omega) _ _, C1.put2 tN _ _, C2.put2 tN _ _, below_set2 bel (by omega) _ _⟩
  case rest =>
    obtain ⟨⟨g7, p7, A7, c7, l7, rfl, hg7, t7, E7⟩, t3, t5, t6, C1, C2, bel⟩ := hcut
    go_upto_region 4 with (fail)
    go_cut [8] (fun s wx => Bx (w.heap.size + 2) z (n + k + 1) s wx ∧ Four wx (w.heap.size + 2) (.bool false) (.slice none 0 0) (.bool false) (.slice none 0 0) ∧ Below w.heap.size w wx)
    case first =>
      have zz := t7.lt
      have zzt5 := t5.lt
      have zzt6 := t6.lt
      go_region_held3 (fun w' => w'.cell? ⟨g5, 0, none⟩ = some (.bool (decide (z1.num < 0))) ∧ w'.cell? ⟨g5, 1, none⟩ = some (.slice A5 l5.length c5) ∧ w'.cell? ⟨g5, 2, none⟩ = some (.bool false) ∧ w'.cell? ⟨g5, 3, none⟩ = some (.slice B5 m5.length d5) ∧ w'.cell? ⟨g6, 0, none⟩ = some (.bool (decide (z2.num < 0))) ∧ w'.cell? ⟨g6, 1, none⟩ = some (.slice A6 l6.length c6) ∧ w'.cell? ⟨g6, 2, none⟩ = some (.bool false) ∧ w'.cell? ⟨g6, 3, none⟩ = some (.slice B6 m6.length d6) ∧ w'.cell? ⟨g7, 0, none⟩ = some (.bool p7) ∧ w'.cell? ⟨g7, 1, none⟩ = some (.slice A7 l7.length c7))
        ((repeat' (first | (with_reducible refine And.intro ?_ ?_) | (with_reducible refine far4c ?_ ?_) | (with_reducible refine far2c ?_ ?_) | (with_reducible refine cell_allocc ?_) | (with_reducible refine cell_drewc ?_))) <;> (first | (with_reducible exact t5.c0) | (with_reducible exact t5.c1) | (with_reducible exact t5.c2) | (with_reducible exact t5.c3) | (with_reducible exact t6.c0) | (with_reducible exact t6.c1) | (with_reducible exact t6.c2) | (with_reducible exact t6.c3) | (with_reducible exact t7.c0) | (with_reducible exact t7.c1) | omega | (simp; omega)))
        (first
          | (go_at_call 63; (first | ((with_reducible refine (HM3.out _ _ _ _ _ _ _ (C1.below (bq_d _)).b (C2.below (bq_d _)).b).mono ?_); rintro e wa ⟨p8, A8, c8, l8, rfl, E8, hb⟩; have hq := bq (bq_d _) hb; replace t7 := t7.below hq t7.lt; replace t3 := t3.below hq t3.lt; replace t5 := t5.below hq t5.lt; replace t6 := t6.below hq t6.lt; replace E7 := E7.below hq; replace C1 := C1.below hq; replace C2 := C2.below hq; replace bel := bel.trans (hq.mono bel.size); have zzt50 := t5.lt; have zzt60 := t6.lt; have zzt70 := t7.lt; clear hb hq) | ((with_reducible refine (HM3.out _ _ _ _ _ _ _ (C1.below (bq_da _ _)).b (C2.below (bq_da _ _)).b).mono ?_); rintro e wa ⟨p8, A8, c8, l8, rfl, E8, hb⟩; have tN := ((Four.new_ _ (.bool false) (.slice none 0 0) (.bool false) (.slice none 0 0) 26).drew).below hb ((Four.new_ _ (.bool false) (.slice none 0 0) (.bool false) (.slice none 0 0) 26).drew).lt; have hq := bq (bq_da _ _) hb; replace t7 := t7.below hq t7.lt; replace t3 := t3.below hq t3.lt; replace t5 := t5.below hq t5.lt; replace t6 := t6.below hq t6.lt; replace E7 := E7.below hq; replace C1 := C1.below hq; replace C2 := C2.below hq; replace bel := bel.trans (hq.mono bel.size); have zzt50 := t5.lt; have zzt60 := t6.lt; have zzt70 := t7.lt; clear hb hq)))
          | (go_at_call 18; (first | ((with_reducible refine (HNW.out _ _ _ _ _ _ _ _ _ (E7.below (bq_r _)) (E8.below (bq_r _))).mono ?_); rintro e wa ⟨A9, c9, l9, B9, d9, m9, rfl, CC, hb⟩; have hq := bq (bq_r _) hb; replace t7 := t7.below hq t7.lt; replace t3 := t3.below hq t3.lt; replace t5 := t5.below hq t5.lt; replace t6 := t6.below hq t6.lt; replace E7 := E7.below hq; replace C1 := C1.below hq; replace C2 := C2.below hq; replace bel := bel.trans (hq.mono bel.size); replace E8 := E8.below hq; (try replace tN := tN.below hb tN.lt); have zzt51 := t5.lt; have zzt61 := t6.lt; have zzt71 := t7.lt; (try have n0 := tN.c0); (try have n1 := tN.c1); (try have m0 := tN.fr 0); (try have m1 := tN.fr 1); (try have n2 := tN.c2); (try have n3 := tN.c3); (try have m2 := tN.fr 2); (try have m3 := tN.fr 3); (try have hg := tN.lt); clear hb hq) | ((with_reducible refine (HNW.out _ _ _ _ _ _ _ _ _ (E7.below (al1 _ _)) (E8.below (al1 _ _))).mono ?_); rintro e wa ⟨A9, c9, l9, B9, d9, m9, rfl, CC, hb⟩; have tN := ((Four.new_ _ (.bool false) (.slice none 0 0) (.bool false) (.slice none 0 0) 26)).below hb ((Four.new_ _ (.bool false) (.slice none 0 0) (.bool false) (.slice none 0 0) 26)).lt; have hq := bq (al1 _ _) hb; replace t7 := t7.below hq t7.lt; replace t3 := t3.below hq t3.lt; replace t5 := t5.below hq t5.lt; replace t6 := t6.below hq t6.lt; replace E7 := E7.below hq; replace C1 := C1.below hq; replace C2 := C2.below hq; replace bel := bel.trans (hq.mono bel.size); replace E8 := E8.below hq; have zzt51 := t5.lt; have zzt61 := t6.lt; have zzt71 := t7.lt; (try have n0 := tN.c0); (try have n1 := tN.c1); (try have m0 := tN.fr 0); (try have m1 := tN.fr 1); (try have n2 := tN.c2); (try have n3 := tN.c3); (try have m2 := tN.fr 2); (try have m3 := tN.fr 3); (try have hg := tN.lt); clear hb hq))))
      all_goals
        go_wp2_with fail
        go_meet
        first
          | exact ⟨⟨_, _, _, _, _, _, _, rfl, by omega, Four.new_ _ _ _ _ _ _, CC.alloc _⟩, t3.alloc _, bel.alloc bel.size _⟩
          | exact ⟨⟨_, _, _, _, _, _, _, rfl, by omega, tN.put _ _ _ _, CC.put4 tN _ _ _ _⟩, t3.far4 (by omega) _ _ _ _, below_set4 bel (by omega) _ _ _ _⟩
    case rest =>
      obtain ⟨⟨g9, A9, c9, l9, B9, d9, m9, rfl, hg9, t9, C9⟩, t3, bel⟩ := hcut
      have e0 := t9.c0
      have e1 := t9.c1
      have e2 := t9.c2
      have e3 := t9.c3
      have d0 := t3.c0
      have d1 := t3.c1
      have d2 := t3.c2
      have d3 := t3.c3
      have f0 := t3.fr 0
      have f1 := t3.fr 1
      have f2 := t3.fr 2
      have f3 := t3.fr 3
      have R := Lib.hid (t3.put (.bool (decide (z.num < 0))) (.slice A9 l9.length c9) (.bool false) (.slice B9 m9.length d9))
      have CR := Lib.hid (C9.put4 t3 (.bool (decide (z.num < 0))) (.slice A9 l9.length c9) (.bool false) (.slice B9 m9.length d9))
      have BL := Lib.hid (below_set4 bel (b := w.heap.size + 2) (by omega) (.bool (decide (z.num < 0))) (.slice A9 l9.length c9) (.bool false) (.slice B9 m9.length d9))
      clear t9 t3 C9 bel
      go_wp2_with fail
      have r0 := R.out.c0
      have r1 := R.out.c1
      have r2 := R.out.c2
      have r3 := R.out.c3
      unfold set4 at r0 r1 r2 r3
      refine bodyPost_ret (v := .agg #[.bool (decide (z.num < 0)), .slice A9 l9.length c9, .bool false, .slice B9 m9.length d9]) (by simp [results, Tryz.results24, go_sem, r0, r1, r2, r3]) rfl ?_
      exact ⟨A9, c9, l9, B9, d9, m9, rfl, CR.out, BL.out⟩
end Go.Proofs.YtpfaddgcfacgdaaGreatDoor
