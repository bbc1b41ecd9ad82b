/- My texts, packed: Sd, Sc, Sb, Sf. -/
import Derived.Test.YtpfaddgcfacgdaaGreatDoorPk14
/- Walks of package rational: New of the reference, a denominator below 0. -/
namespace Go.Proofs.YtpfaddgcfacgdaaGreatDoor
open Go.RowKit
set_option linter.unusedVariables false

set_option maxRecDepth 100000 in
set_option maxHeartbeats 3000000 in
theorem rnew_neg {x y : Int} {z : Rat} {n : Nat} {p : Bool} {A : Option Addr} {c : Nat} {l : List Nat} {q : Bool} {B : Option Addr} {d : Nat} {m : List Nat} {w : World} (h1 : Iv w p A c l x n) (h2 : Iv w q B d m y n) (hn : n ≤ 100) (hn1 : 1 ≤ n) (hy : y < 0) (hx : ¬ x = 0) (hz : z = Rat.divInt x y) :
    Calls Tryz.prog 18 #[.agg #[.bool p, .slice A l.length c], .agg #[.bool q, .slice B m.length d]] w (GRc z n w) := by
  have HC1 := Lib.hid (fun (W : World) (h : Iv W p A c l x n) => grclean h hn)
  have HC2 := Lib.hid (fun (W : World) (h : Iv W q B d m y n) => grclean h hn)
  have HZ1 := Lib.hid (fun (W : World) (p4 : Bool) (A4 : Option Addr) (c4 : Nat) (l4 : List Nat) (h : Cn W p4 A4 c4 l4 y n) => (by have h := grz h.iv hn; rwa [decide_eq_false (by omega)] at h : Calls Tryz.prog 56 #[.agg #[.bool p4, .slice A4 l4.length c4]] W fun e w' => e = .returned (.bool false) ∧ Below W.heap.size W w'))
  have HZ2 := Lib.hid (fun (W : World) (p4 : Bool) (A4 : Option Addr) (c4 : Nat) (l4 : List Nat) (h : Cn W p4 A4 c4 l4 x n) => (by have h := grz h.iv hn; rwa [decide_eq_false hx] at h : Calls Tryz.prog 56 #[.agg #[.bool p4, .slice A4 l4.length c4]] W fun e w' => e = .returned (.bool false) ∧ Below W.heap.size W w'))
  obtain ⟨x1, hx1⟩ : ∃ v : Int, v = (-x) := ⟨_, rfl⟩
  obtain ⟨y1, hy1⟩ : ∃ v : Int, v = (-y) := ⟨_, rfl⟩
  have hy0 : 0 < y1 := by omega
  have hzz : z = Rat.divInt x1 y1 := by rw [hz, hx1, hy1]; exact (Rat.neg_divInt_neg x y).symm
  obtain ⟨G, hG⟩ : ∃ G : Int, G = (Nat.gcd x1.natAbs y1.natAbs : Int) := ⟨_, rfl⟩
  have hpar := rq_parts (n := x1) hy0
  rw [← hzz, ← hG] at hpar
  have hG0 : G ≠ 0 := by
    have : 0 < Nat.gcd x1.natAbs y1.natAbs := Nat.gcd_pos_of_pos_right _ (by omega)
    omega
  have HG := Lib.hid (fun (W : World) (p4 : Bool) (A4 : Option Addr) (c4 : Nat) (l4 : List Nat) (p5 : Bool) (A5 : Option Addr) (c5 : Nat) (l5 : List Nat) (h : Cn W p4 A4 c4 l4 x1 n) (h' : Cn W p5 A5 c5 l5 y1 n) => (by have h := grgcd h.iv h'.iv hn hn; rw [← hG, Nat.max_self] at h; exact h : Calls Tryz.prog 58 #[.agg #[.bool p4, .slice A4 l4.length c4], .agg #[.bool p5, .slice A5 l5.length c5]] W (GI G n W)))
  have HD1 := Lib.hid (fun (W : World) (p4 : Bool) (A4 : Option Addr) (c4 : Nat) (l4 : List Nat) (p5 : Bool) (A5 : Option Addr) (c5 : Nat) (l5 : List Nat) (h : Cn W p4 A4 c4 l4 x1 n) (h' : Cn W p5 A5 c5 l5 G n) => (by have h := grdivide h.iv h'.iv hG0 hn hn; rw [← hpar.1] at h; exact h : Calls Tryz.prog 59 #[.agg #[.bool p4, .slice A4 l4.length c4], .agg #[.bool p5, .slice A5 l5.length c5]] W (GI2 z.num (x1.fmod G) n n W)))
  have HD2 := Lib.hid (fun (W : World) (p4 : Bool) (A4 : Option Addr) (c4 : Nat) (l4 : List Nat) (p5 : Bool) (A5 : Option Addr) (c5 : Nat) (l5 : List Nat) (h : Cn W p4 A4 c4 l4 y1 n) (h' : Cn W p5 A5 c5 l5 G n) => (by have h := grdivide h.iv h'.iv hG0 hn hn; rw [← hpar.2] at h; exact h : Calls Tryz.prog 59 #[.agg #[.bool p4, .slice A4 l4.length c4], .agg #[.bool p5, .slice A5 l5.length c5]] W (GI2 (z.den : Int) (y1.fmod G) n n W)))
  have HSG : Hid (decide (y < 0) = true) := Lib.hid (decide_eq_true (by omega))
  have HNX := Lib.hid (fun (W : World) (p4 : Bool) (A4 : Option Addr) (c4 : Nat) (l4 : List Nat) (h : Cn W p4 A4 c4 l4 x n) => (by have h := grneg h.iv hn; rw [← hx1] at h; exact h : Calls Tryz.prog 57 #[.agg #[.bool p4, .slice A4 l4.length c4]] W (GI x1 n W)))
  have HNY := Lib.hid (fun (W : World) (p4 : Bool) (A4 : Option Addr) (c4 : Nat) (l4 : List Nat) (h : Cn W p4 A4 c4 l4 y n) => (by have h := grneg h.iv hn; rw [← hy1] at h; exact h : Calls Tryz.prog 57 #[.agg #[.bool p4, .slice A4 l4.length c4]] W (GI y1 n W)))
  clear hx1 hy1 hy0 hzz hG hpar hG0
  skip
  have HN := Lib.hid hn
  clear hn hy hx hz hn1
  go_enter Tryz.func18, Tryz.ntmps18
  go_wp2_with fail
  have t2 : Two (((w.alloc (.cells #[.bool p, .slice A l.length c] 24)).alloc (.cells #[.bool q, .slice B m.length d] 24)).alloc (.cells #[.bool false, .slice none 0 0, .bool false, .slice none 0 0] 26)) w.heap.size (.bool p) (.slice A l.length c) := ((Two.new_ w (.bool p) (.slice A l.length c) 24).alloc _).alloc _
  have t3 : Two (((w.alloc (.cells #[.bool p, .slice A l.length c] 24)).alloc (.cells #[.bool q, .slice B m.length d] 24)).alloc (.cells #[.bool false, .slice none 0 0, .bool false, .slice none 0 0] 26)) (w.heap.size + 1) (.bool q) (.slice B m.length d) := by simpa only [World.size_alloc, Nat.add_assoc, Nat.reduceAdd] using (Two.new_ (w.alloc (.cells #[.bool p, .slice A l.length c] 24)) (.bool q) (.slice B m.length d) 24).alloc _
  have t4 : Four (((w.alloc (.cells #[.bool p, .slice A l.length c] 24)).alloc (.cells #[.bool q, .slice B m.length d] 24)).alloc (.cells #[.bool false, .slice none 0 0, .bool false, .slice none 0 0] 26)) (w.heap.size + 2) (.bool false) (.slice none 0 0) (.bool false) (.slice none 0 0) := by simpa only [World.size_alloc, Nat.add_assoc, Nat.reduceAdd] using Four.new_ ((w.alloc (.cells #[.bool p, .slice A l.length c] 24)).alloc (.cells #[.bool q, .slice B m.length d] 24)) (.bool false) (.slice none 0 0) (.bool false) (.slice none 0 0) 26
  have bel : Below w.heap.size w (((w.alloc (.cells #[.bool p, .slice A l.length c] 24)).alloc (.cells #[.bool q, .slice B m.length d] 24)).alloc (.cells #[.bool false, .slice none 0 0, .bool false, .slice none 0 0] 26)) := (((Below.refl _ _).alloc (Nat.le_refl _) _).alloc (by simp only [World.size_alloc]; omega) _).alloc (by simp only [World.size_alloc]; omega) _
  generalize (((w.alloc (.cells #[.bool p, .slice A l.length c] 24)).alloc (.cells #[.bool q, .slice B m.length d] 24)).alloc (.cells #[.bool false, .slice none 0 0, .bool false, .slice none 0 0] 26)) = wx at t2 t3 t4 bel ⊢
  have X := h1.below bel
  have t2_0 := t2.c0
  have t2_1 := t2.c1
  go_wp2_with fail
  refine (HC1.out _ X).mono ?_
  rintro e w2 ⟨p3, A3, c3, l3, rfl, E1, hb⟩
  clear t2_0 t2_1
  clear t2
  replace t3 := t3.below hb t3.lt
  replace t4 := t4.below hb t4.lt
  replace bel := bel.trans (hb.mono bel.size)
  clear hb
  clear X
  go_upto_region 2 with (fail)
  have hg6 : w.heap.size + 2 < w2.heap.size := t4.lt
  have t6 : Two (w2.alloc (.cells #[.bool p3, .slice A3 l3.length c3] 24)) w2.heap.size (.bool p3) (.slice A3 l3.length c3) := Two.new_ w2 (.bool p3) (.slice A3 l3.length c3) 24
  have bn : Below w2.heap.size w2 (w2.alloc (.cells #[.bool p3, .slice A3 l3.length c3] 24)) := (Below.refl _ _).alloc (Nat.le_refl _) _
  replace t3 := t3.below bn t3.lt
  replace t4 := t4.below bn t4.lt
  replace bel := bel.trans (bn.mono bel.size)
  replace E1 := E1.below bn
  clear bn
  generalize (w2.alloc (.cells #[.bool p3, .slice A3 l3.length c3] 24)) = v1 at t3 t4 bel E1 t6 ⊢
  generalize w2.heap.size = g6 at t3 t4 bel E1 t6 hg6 ⊢
  have Y := h2.below bel
  have t3_0 := t3.c0
  have t3_1 := t3.c1
  go_wp2_with fail
  refine (HC2.out _ Y).mono ?_
  rintro e w3 ⟨p4, A4, c4, l4, rfl, E2, hb⟩
  clear t3_0 t3_1
  clear t3
  replace t4 := t4.below hb t4.lt
  replace bel := bel.trans (hb.mono bel.size)
  replace E1 := E1.below hb
  replace t6 := t6.below hb t6.lt
  clear hb
  clear Y
  obtain rfl : p4 = true := E2.can.1.trans HSG.out
  go_upto_region 3 with (fail)
  have hg7 : g6 < w3.heap.size := t6.lt
  have t7 : Two (w3.alloc (.cells #[.bool true, .slice A4 l4.length c4] 24)) w3.heap.size (.bool true) (.slice A4 l4.length c4) := Two.new_ w3 (.bool true) (.slice A4 l4.length c4) 24
  have bn : Below w3.heap.size w3 (w3.alloc (.cells #[.bool true, .slice A4 l4.length c4] 24)) := (Below.refl _ _).alloc (Nat.le_refl _) _
  replace t4 := t4.below bn t4.lt
  replace bel := bel.trans (bn.mono bel.size)
  replace E1 := E1.below bn
  replace t6 := t6.below bn t6.lt
  replace E2 := E2.below bn
  clear bn
  generalize (w3.alloc (.cells #[.bool true, .slice A4 l4.length c4] 24)) = v2 at t4 bel E1 t6 E2 t7 ⊢
  generalize w3.heap.size = g7 at t4 bel E1 t6 E2 t7 hg7 ⊢
  have t7_0 := t7.c0
  have t7_1 := t7.c1
  go_wp2_with fail
  refine (HZ1.out _ _ _ _ _ E2).mono ?_
  rintro e w4 ⟨rfl, hb⟩
  clear t7_0 t7_1
  replace t4 := t4.below hb t4.lt
  replace bel := bel.trans (hb.mono bel.size)
  replace E1 := E1.below hb
  replace t6 := t6.below hb t6.lt
  replace E2 := E2.below hb
  replace t7 := t7.below hb t7.lt
  clear hb
  have t6_0 := t6.c0
  have t6_1 := t6.c1
  go_wp2_with fail
  refine (HZ2.out _ _ _ _ _ E1).mono ?_
  rintro e w5 ⟨rfl, hb⟩
  clear t6_0 t6_1
  replace t4 := t4.below hb t4.lt
  replace bel := bel.trans (hb.mono bel.size)
  replace E1 := E1.below hb
  replace t6 := t6.below hb t6.lt
  replace E2 := E2.below hb
  replace t7 := t7.below hb t7.lt
  clear hb
  have t7_0 := t7.c0
  have t7_1 := t7.c1
  have t6_0 := t6.c0
  have t6_1 := t6.c1
  go_wp2_with fail
  refine (HNX.out _ _ _ _ _ E1).mono ?_
  rintro e w6 ⟨p5, A5, c5, l5, rfl, E3, hb⟩
  clear t7_0 t7_1 t6_0 t6_1
  clear E1
  replace t4 := t4.below hb t4.lt
  replace bel := bel.trans (hb.mono bel.size)
  replace t6 := t6.below hb t6.lt
  replace E2 := E2.below hb
  replace t7 := t7.below hb t7.lt
  clear hb
  have t6_0 := t6.c0
  have t6_1 := t6.c1
  have fa := t6.fr 0
  have fb := t6.fr 1
  go_upto_region 9 with (fail)
  clear fa fb
  clear t6_0 t6_1
  replace t4 := t4.far2 (g := g6) (by omega) (.bool p5) (.slice A5 l5.length c5)
  replace bel := below_set2 bel (b := g6) (by omega) (.bool p5) (.slice A5 l5.length c5)
  replace E2 := E2.put2 t6 (.bool p5) (.slice A5 l5.length c5)
  replace t7 := t7.far2 (g := g6) (by omega) (.bool p5) (.slice A5 l5.length c5)
  replace E3 := E3.put2 t6 (.bool p5) (.slice A5 l5.length c5)
  replace t6 := t6.put2 (.bool p5) (.slice A5 l5.length c5)
  dsimp only [set2] at t4 bel t6 E2 t7 E3
  generalize ((w6.setCell ⟨g6, 0, none⟩ (.bool p5)).setCell ⟨g6, 1, none⟩ (.slice A5 l5.length c5)) = v3 at t4 bel t6 E2 t7 E3 ⊢
  have t7_0 := t7.c0
  have t7_1 := t7.c1
  go_wp2_with fail
  refine (HNY.out _ _ _ _ _ E2).mono ?_
  rintro e w7 ⟨p6, A6, c6, l6, rfl, E4, hb⟩
  clear t7_0 t7_1
  clear E2
  replace t4 := t4.below hb t4.lt
  replace bel := bel.trans (hb.mono bel.size)
  replace t6 := t6.below hb t6.lt
  replace t7 := t7.below hb t7.lt
  replace E3 := E3.below hb
  clear hb
  have t7_0 := t7.c0
  have t7_1 := t7.c1
  have fa := t7.fr 0
  have fb := t7.fr 1
  go_upto_region 10 with (fail)
  clear fa fb
  clear t7_0 t7_1
  replace t4 := t4.far2 (g := g7) (by omega) (.bool p6) (.slice A6 l6.length c6)
  replace bel := below_set2 bel (b := g7) (by omega) (.bool p6) (.slice A6 l6.length c6)
  replace t6 := t6.far2 (g := g7) (by omega) (.bool p6) (.slice A6 l6.length c6)
  replace E3 := E3.put2 t7 (.bool p6) (.slice A6 l6.length c6)
  replace E4 := E4.put2 t7 (.bool p6) (.slice A6 l6.length c6)
  replace t7 := t7.put2 (.bool p6) (.slice A6 l6.length c6)
  dsimp only [set2] at t4 bel t6 t7 E3 E4
  generalize ((w7.setCell ⟨g7, 0, none⟩ (.bool p6)).setCell ⟨g7, 1, none⟩ (.slice A6 l6.length c6)) = v4 at t4 bel t6 t7 E3 E4 ⊢
  have t6_0 := t6.c0
  have t6_1 := t6.c1
  have t7_0 := t7.c0
  have t7_1 := t7.c1
  go_wp2_with fail
  refine (HG.out _ _ _ _ _ _ _ _ _ E3 E4).mono ?_
  rintro e w8 ⟨p8, A8, c8, l8, rfl, E8, hb⟩
  clear t6_0 t6_1 t7_0 t7_1
  replace t4 := t4.below hb t4.lt
  replace bel := bel.trans (hb.mono bel.size)
  replace t6 := t6.below hb t6.lt
  replace t7 := t7.below hb t7.lt
  replace E3 := E3.below hb
  replace E4 := E4.below hb
  clear hb
  go_upto_region 11 with (fail)
  have hg8 : g7 < w8.heap.size := t7.lt
  have t8 : Two (w8.alloc (.cells #[.bool p8, .slice A8 l8.length c8] 24)) w8.heap.size (.bool p8) (.slice A8 l8.length c8) := Two.new_ w8 (.bool p8) (.slice A8 l8.length c8) 24
  have bn : Below w8.heap.size w8 (w8.alloc (.cells #[.bool p8, .slice A8 l8.length c8] 24)) := (Below.refl _ _).alloc (Nat.le_refl _) _
  replace t4 := t4.below bn t4.lt
  replace bel := bel.trans (bn.mono bel.size)
  replace t6 := t6.below bn t6.lt
  replace t7 := t7.below bn t7.lt
  replace E3 := E3.below bn
  replace E4 := E4.below bn
  replace E8 := E8.below bn
  clear bn
  generalize (w8.alloc (.cells #[.bool p8, .slice A8 l8.length c8] 24)) = v5 at t4 bel t6 t7 E3 E4 E8 t8 ⊢
  generalize w8.heap.size = g8 at t4 bel t6 t7 E3 E4 E8 t8 hg8 ⊢
  have t6_0 := t6.c0
  have t6_1 := t6.c1
  have t8_0 := t8.c0
  have t8_1 := t8.c1
  go_wp2_with fail
  refine (HD1.out _ _ _ _ _ _ _ _ _ E3 E8).mono ?_
  rintro e w9 ⟨p9, A9, c9, l9, pa, Aa, ca, la, rfl, E9, Ea, hb⟩
  clear t6_0 t6_1 t8_0 t8_1
  clear E3 t6
  replace t4 := t4.below hb t4.lt
  replace bel := bel.trans (hb.mono bel.size)
  replace t7 := t7.below hb t7.lt
  replace E4 := E4.below hb
  replace E8 := E8.below hb
  replace t8 := t8.below hb t8.lt
  clear hb
  clear Ea
  go_upto_region 12 with (fail)
  have hg9 : g8 < w9.heap.size := t8.lt
  have t9 : Two ((w9.alloc (.cells #[.bool p9, .slice A9 l9.length c9] 24)).alloc (.cells #[.bool pa, .slice Aa la.length ca] 24)) w9.heap.size (.bool p9) (.slice A9 l9.length c9) := (Two.new_ w9 (.bool p9) (.slice A9 l9.length c9) 24).alloc _
  have t10 : Two ((w9.alloc (.cells #[.bool p9, .slice A9 l9.length c9] 24)).alloc (.cells #[.bool pa, .slice Aa la.length ca] 24)) (w9.heap.size + 1) (.bool pa) (.slice Aa la.length ca) := by simpa only [World.size_alloc, Nat.add_assoc, Nat.reduceAdd] using Two.new_ (w9.alloc (.cells #[.bool p9, .slice A9 l9.length c9] 24)) (.bool pa) (.slice Aa la.length ca) 24
  have bn : Below w9.heap.size w9 ((w9.alloc (.cells #[.bool p9, .slice A9 l9.length c9] 24)).alloc (.cells #[.bool pa, .slice Aa la.length ca] 24)) := ((Below.refl _ _).alloc (Nat.le_refl _) _).alloc (by simp only [World.size_alloc]; omega) _
  replace t4 := t4.below bn t4.lt
  replace bel := bel.trans (bn.mono bel.size)
  replace t7 := t7.below bn t7.lt
  replace E4 := E4.below bn
  replace E8 := E8.below bn
  replace t8 := t8.below bn t8.lt
  replace E9 := E9.below bn
  clear bn
  generalize ((w9.alloc (.cells #[.bool p9, .slice A9 l9.length c9] 24)).alloc (.cells #[.bool pa, .slice Aa la.length ca] 24)) = v6 at t4 bel t7 E4 E8 t8 E9 t9 t10 ⊢
  generalize w9.heap.size = g9 at t4 bel t7 E4 E8 t8 E9 t9 t10 hg9 ⊢
  clear t10
  have t7_0 := t7.c0
  have t7_1 := t7.c1
  have t8_0 := t8.c0
  have t8_1 := t8.c1
  go_wp2_with fail
  refine (HD2.out _ _ _ _ _ _ _ _ _ E4 E8).mono ?_
  rintro e w10 ⟨pb, Ab, cb, lb, pc, Ac, cc, lc, rfl, Eb, Ec, hb⟩
  clear t7_0 t7_1 t8_0 t8_1
  clear E4 E8 t7 t8
  replace t4 := t4.below hb t4.lt
  replace bel := bel.trans (hb.mono bel.size)
  replace E9 := E9.below hb
  replace t9 := t9.below hb t9.lt
  clear hb
  clear Ec
  go_upto_region 13 with (fail)
  have hgb : g9 < w10.heap.size := t9.lt
  have tb : Two ((w10.alloc (.cells #[.bool pb, .slice Ab lb.length cb] 24)).alloc (.cells #[.bool pc, .slice Ac lc.length cc] 24)) w10.heap.size (.bool pb) (.slice Ab lb.length cb) := (Two.new_ w10 (.bool pb) (.slice Ab lb.length cb) 24).alloc _
  have tc : Two ((w10.alloc (.cells #[.bool pb, .slice Ab lb.length cb] 24)).alloc (.cells #[.bool pc, .slice Ac lc.length cc] 24)) (w10.heap.size + 1) (.bool pc) (.slice Ac lc.length cc) := by simpa only [World.size_alloc, Nat.add_assoc, Nat.reduceAdd] using Two.new_ (w10.alloc (.cells #[.bool pb, .slice Ab lb.length cb] 24)) (.bool pc) (.slice Ac lc.length cc) 24
  have bn : Below w10.heap.size w10 ((w10.alloc (.cells #[.bool pb, .slice Ab lb.length cb] 24)).alloc (.cells #[.bool pc, .slice Ac lc.length cc] 24)) := ((Below.refl _ _).alloc (Nat.le_refl _) _).alloc (by simp only [World.size_alloc]; omega) _
  replace t4 := t4.below bn t4.lt
  replace bel := bel.trans (bn.mono bel.size)
  replace E9 := E9.below bn
  replace t9 := t9.below bn t9.lt
  replace Eb := Eb.below bn
  clear bn
  generalize ((w10.alloc (.cells #[.bool pb, .slice Ab lb.length cb] 24)).alloc (.cells #[.bool pc, .slice Ac lc.length cc] 24)) = v7 at t4 bel E9 t9 Eb tb tc ⊢
  generalize w10.heap.size = gb at t4 bel E9 t9 Eb tb tc hgb ⊢
  clear tc
  obtain rfl : p9 = decide (z.num < 0) := E9.can.1
  obtain rfl : pb = false := Eb.can.1.trans (decide_eq_false (by have := rq_den_pos z; omega))
  have t9_0 := t9.c0
  have t9_1 := t9.c1
  have tb_0 := tb.c0
  have tb_1 := tb.c1
  have d0 := t4.c0
  have d1 := t4.c1
  have d2 := t4.c2
  have d3 := t4.c3
  have f0 := t4.fr 0
  have f1 := t4.fr 1
  have f2 := t4.fr 2
  have f3 := t4.fr 3
  have R := Lib.hid (t4.put (.bool (decide (z.num < 0))) (.slice A9 l9.length c9) (.bool false) (.slice Ab lb.length cb))
  have CR := Lib.hid ((⟨E9, Eb⟩ : Cr _ _ _ _ _ _ _ z _).put4 t4 (.bool (decide (z.num < 0))) (.slice A9 l9.length c9) (.bool false) (.slice Ab lb.length cb))
  have BL := Lib.hid (below_set4 bel (b := w.heap.size + 2) (by omega) (.bool (decide (z.num < 0))) (.slice A9 l9.length c9) (.bool false) (.slice Ab lb.length cb))
  clear t4 bel E9 t9 Eb tb
  go_wp2_with fail
  have r0 := R.out.c0
  have r1 := R.out.c1
  have r2 := R.out.c2
  have r3 := R.out.c3
  unfold set4 at r0 r1 r2 r3
  refine bodyPost_ret (v := .tuple #[.agg #[.bool (decide (z.num < 0)), .slice A9 l9.length c9, .bool false, .slice Ab lb.length cb], .int .i64 0]) (by simp [results, Tryz.results18, go_sem, r0, r1, r2, r3]) rfl ?_
  exact ⟨A9, c9, l9, Ab, cb, lb, rfl, CR.out, BL.out⟩
end Go.Proofs.YtpfaddgcfacgdaaGreatDoor
/- Walks of package rational: New of the reference, a denominator above 0. -/
namespace Go.Proofs.YtpfaddgcfacgdaaGreatDoor
open Go.RowKit
set_option linter.unusedVariables false

set_option maxRecDepth 100000 in
set_option maxHeartbeats 3000000 in
theorem rnew_pos {x y : Int} {z : Rat} {n : Nat} {p : Bool} {A : Option Addr} {c : Nat} {l : List Nat} {q : Bool} {B : Option Addr} {d : Nat} {m : List Nat} {w : World} (h1 : Iv w p A c l x n) (h2 : Iv w q B d m y n) (hn : n ≤ 100) (hn1 : 1 ≤ n) (hy : 0 < y) (hx : ¬ x = 0) (hz : z = Rat.divInt x y) :
    Calls Tryz.prog 18 #[.agg #[.bool p, .slice A l.length c], .agg #[.bool q, .slice B m.length d]] w (GRc z n w) := by
  have HC1 := Lib.hid (fun (W : World) (h : Iv W p A c l x n) => grclean h hn)
  have HC2 := Lib.hid (fun (W : World) (h : Iv W q B d m y n) => grclean h hn)
  have HZ1 := Lib.hid (fun (W : World) (p4 : Bool) (A4 : Option Addr) (c4 : Nat) (l4 : List Nat) (h : Cn W p4 A4 c4 l4 y n) => (by have h := grz h.iv hn; rwa [decide_eq_false (by omega)] at h : Calls Tryz.prog 56 #[.agg #[.bool p4, .slice A4 l4.length c4]] W fun e w' => e = .returned (.bool false) ∧ Below W.heap.size W w'))
  have HZ2 := Lib.hid (fun (W : World) (p4 : Bool) (A4 : Option Addr) (c4 : Nat) (l4 : List Nat) (h : Cn W p4 A4 c4 l4 x n) => (by have h := grz h.iv hn; rwa [decide_eq_false hx] at h : Calls Tryz.prog 56 #[.agg #[.bool p4, .slice A4 l4.length c4]] W fun e w' => e = .returned (.bool false) ∧ Below W.heap.size W w'))
  obtain ⟨x1, hx1⟩ : ∃ v : Int, v = x := ⟨_, rfl⟩
  obtain ⟨y1, hy1⟩ : ∃ v : Int, v = y := ⟨_, rfl⟩
  have hy0 : 0 < y1 := by omega
  have hzz : z = Rat.divInt x1 y1 := by rw [hz, hx1, hy1]
  obtain ⟨G, hG⟩ : ∃ G : Int, G = (Nat.gcd x1.natAbs y1.natAbs : Int) := ⟨_, rfl⟩
  have hpar := rq_parts (n := x1) hy0
  rw [← hzz, ← hG] at hpar
  have hG0 : G ≠ 0 := by
    have : 0 < Nat.gcd x1.natAbs y1.natAbs := Nat.gcd_pos_of_pos_right _ (by omega)
    omega
  have HG := Lib.hid (fun (W : World) (p4 : Bool) (A4 : Option Addr) (c4 : Nat) (l4 : List Nat) (p5 : Bool) (A5 : Option Addr) (c5 : Nat) (l5 : List Nat) (h : Cn W p4 A4 c4 l4 x1 n) (h' : Cn W p5 A5 c5 l5 y1 n) => (by have h := grgcd h.iv h'.iv hn hn; rw [← hG, Nat.max_self] at h; exact h : Calls Tryz.prog 58 #[.agg #[.bool p4, .slice A4 l4.length c4], .agg #[.bool p5, .slice A5 l5.length c5]] W (GI G n W)))
  have HD1 := Lib.hid (fun (W : World) (p4 : Bool) (A4 : Option Addr) (c4 : Nat) (l4 : List Nat) (p5 : Bool) (A5 : Option Addr) (c5 : Nat) (l5 : List Nat) (h : Cn W p4 A4 c4 l4 x1 n) (h' : Cn W p5 A5 c5 l5 G n) => (by have h := grdivide h.iv h'.iv hG0 hn hn; rw [← hpar.1] at h; exact h : Calls Tryz.prog 59 #[.agg #[.bool p4, .slice A4 l4.length c4], .agg #[.bool p5, .slice A5 l5.length c5]] W (GI2 z.num (x1.fmod G) n n W)))
  have HD2 := Lib.hid (fun (W : World) (p4 : Bool) (A4 : Option Addr) (c4 : Nat) (l4 : List Nat) (p5 : Bool) (A5 : Option Addr) (c5 : Nat) (l5 : List Nat) (h : Cn W p4 A4 c4 l4 y1 n) (h' : Cn W p5 A5 c5 l5 G n) => (by have h := grdivide h.iv h'.iv hG0 hn hn; rw [← hpar.2] at h; exact h : Calls Tryz.prog 59 #[.agg #[.bool p4, .slice A4 l4.length c4], .agg #[.bool p5, .slice A5 l5.length c5]] W (GI2 (z.den : Int) (y1.fmod G) n n W)))
  have HSG : Hid (decide (y < 0) = false) := Lib.hid (decide_eq_false (by omega))
  have HXX := Lib.hid hx1
  clear hy0 hzz hG hpar hG0
  have HYY := Lib.hid hy1
  clear hx1 hy1
  have HN := Lib.hid hn
  clear hn hy hx hz hn1
  go_enter Tryz.func18, Tryz.ntmps18
  go_wp2_with fail
  have t2 : Two (((w.alloc (.cells #[.bool p, .slice A l.length c] 24)).alloc (.cells #[.bool q, .slice B m.length d] 24)).alloc (.cells #[.bool false, .slice none 0 0, .bool false, .slice none 0 0] 26)) w.heap.size (.bool p) (.slice A l.length c) := ((Two.new_ w (.bool p) (.slice A l.length c) 24).alloc _).alloc _
  have t3 : Two (((w.alloc (.cells #[.bool p, .slice A l.length c] 24)).alloc (.cells #[.bool q, .slice B m.length d] 24)).alloc (.cells #[.bool false, .slice none 0 0, .bool false, .slice none 0 0] 26)) (w.heap.size + 1) (.bool q) (.slice B m.length d) := by simpa only [World.size_alloc, Nat.add_assoc, Nat.reduceAdd] using (Two.new_ (w.alloc (.cells #[.bool p, .slice A l.length c] 24)) (.bool q) (.slice B m.length d) 24).alloc _
  have t4 : Four (((w.alloc (.cells #[.bool p, .slice A l.length c] 24)).alloc (.cells #[.bool q, .slice B m.length d] 24)).alloc (.cells #[.bool false, .slice none 0 0, .bool false, .slice none 0 0] 26)) (w.heap.size + 2) (.bool false) (.slice none 0 0) (.bool false) (.slice none 0 0) := by simpa only [World.size_alloc, Nat.add_assoc, Nat.reduceAdd] using Four.new_ ((w.alloc (.cells #[.bool p, .slice A l.length c] 24)).alloc (.cells #[.bool q, .slice B m.length d] 24)) (.bool false) (.slice none 0 0) (.bool false) (.slice none 0 0) 26
  have bel : Below w.heap.size w (((w.alloc (.cells #[.bool p, .slice A l.length c] 24)).alloc (.cells #[.bool q, .slice B m.length d] 24)).alloc (.cells #[.bool false, .slice none 0 0, .bool false, .slice none 0 0] 26)) := (((Below.refl _ _).alloc (Nat.le_refl _) _).alloc (by simp only [World.size_alloc]; omega) _).alloc (by simp only [World.size_alloc]; omega) _
  generalize (((w.alloc (.cells #[.bool p, .slice A l.length c] 24)).alloc (.cells #[.bool q, .slice B m.length d] 24)).alloc (.cells #[.bool false, .slice none 0 0, .bool false, .slice none 0 0] 26)) = wx at t2 t3 t4 bel ⊢
  have X := h1.below bel
  have t2_0 := t2.c0
  have t2_1 := t2.c1
  go_wp2_with fail
  refine (HC1.out _ X).mono ?_
  rintro e w2 ⟨p3, A3, c3, l3, rfl, E1, hb⟩
  clear t2_0 t2_1
  clear t2
  replace t3 := t3.below hb t3.lt
  replace t4 := t4.below hb t4.lt
  replace bel := bel.trans (hb.mono bel.size)
  clear hb
  clear X
  go_upto_region 2 with (fail)
  have hg6 : w.heap.size + 2 < w2.heap.size := t4.lt
  have t6 : Two (w2.alloc (.cells #[.bool p3, .slice A3 l3.length c3] 24)) w2.heap.size (.bool p3) (.slice A3 l3.length c3) := Two.new_ w2 (.bool p3) (.slice A3 l3.length c3) 24
  have bn : Below w2.heap.size w2 (w2.alloc (.cells #[.bool p3, .slice A3 l3.length c3] 24)) := (Below.refl _ _).alloc (Nat.le_refl _) _
  replace t3 := t3.below bn t3.lt
  replace t4 := t4.below bn t4.lt
  replace bel := bel.trans (bn.mono bel.size)
  replace E1 := E1.below bn
  clear bn
  generalize (w2.alloc (.cells #[.bool p3, .slice A3 l3.length c3] 24)) = v1 at t3 t4 bel E1 t6 ⊢
  generalize w2.heap.size = g6 at t3 t4 bel E1 t6 hg6 ⊢
  have Y := h2.below bel
  have t3_0 := t3.c0
  have t3_1 := t3.c1
  go_wp2_with fail
  refine (HC2.out _ Y).mono ?_
  rintro e w3 ⟨p4, A4, c4, l4, rfl, E2, hb⟩
  clear t3_0 t3_1
  clear t3
  replace t4 := t4.below hb t4.lt
  replace bel := bel.trans (hb.mono bel.size)
  replace E1 := E1.below hb
  replace t6 := t6.below hb t6.lt
  clear hb
  clear Y
  obtain rfl : p4 = false := E2.can.1.trans HSG.out
  go_upto_region 3 with (fail)
  have hg7 : g6 < w3.heap.size := t6.lt
  have t7 : Two (w3.alloc (.cells #[.bool false, .slice A4 l4.length c4] 24)) w3.heap.size (.bool false) (.slice A4 l4.length c4) := Two.new_ w3 (.bool false) (.slice A4 l4.length c4) 24
  have bn : Below w3.heap.size w3 (w3.alloc (.cells #[.bool false, .slice A4 l4.length c4] 24)) := (Below.refl _ _).alloc (Nat.le_refl _) _
  replace t4 := t4.below bn t4.lt
  replace bel := bel.trans (bn.mono bel.size)
  replace E1 := E1.below bn
  replace t6 := t6.below bn t6.lt
  replace E2 := E2.below bn
  clear bn
  generalize (w3.alloc (.cells #[.bool false, .slice A4 l4.length c4] 24)) = v2 at t4 bel E1 t6 E2 t7 ⊢
  generalize w3.heap.size = g7 at t4 bel E1 t6 E2 t7 hg7 ⊢
  have t7_0 := t7.c0
  have t7_1 := t7.c1
  go_wp2_with fail
  refine (HZ1.out _ _ _ _ _ E2).mono ?_
  rintro e w4 ⟨rfl, hb⟩
  clear t7_0 t7_1
  replace t4 := t4.below hb t4.lt
  replace bel := bel.trans (hb.mono bel.size)
  replace E1 := E1.below hb
  replace t6 := t6.below hb t6.lt
  replace E2 := E2.below hb
  replace t7 := t7.below hb t7.lt
  clear hb
  have t6_0 := t6.c0
  have t6_1 := t6.c1
  go_wp2_with fail
  refine (HZ2.out _ _ _ _ _ E1).mono ?_
  rintro e w5 ⟨rfl, hb⟩
  clear t6_0 t6_1
  replace t4 := t4.below hb t4.lt
  replace bel := bel.trans (hb.mono bel.size)
  replace E1 := E1.below hb
  replace t6 := t6.below hb t6.lt
  replace E2 := E2.below hb
  replace t7 := t7.below hb t7.lt
  clear hb
  have t7_0 := t7.c0
  have t7_1 := t7.c1
  go_upto_region 10 with (fail)
  clear t7_0 t7_1
  rw [← HXX.out] at E1
  rw [← HYY.out] at E2
  have t6_0 := t6.c0
  have t6_1 := t6.c1
  have t7_0 := t7.c0
  have t7_1 := t7.c1
  go_wp2_with fail
  refine (HG.out _ _ _ _ _ _ _ _ _ E1 E2).mono ?_
  rintro e w6 ⟨p8, A8, c8, l8, rfl, E8, hb⟩
  clear t6_0 t6_1 t7_0 t7_1
  replace t4 := t4.below hb t4.lt
  replace bel := bel.trans (hb.mono bel.size)
  replace E1 := E1.below hb
  replace t6 := t6.below hb t6.lt
  replace E2 := E2.below hb
  replace t7 := t7.below hb t7.lt
  clear hb
  go_upto_region 11 with (fail)
  have hg8 : g7 < w6.heap.size := t7.lt
  have t8 : Two (w6.alloc (.cells #[.bool p8, .slice A8 l8.length c8] 24)) w6.heap.size (.bool p8) (.slice A8 l8.length c8) := Two.new_ w6 (.bool p8) (.slice A8 l8.length c8) 24
  have bn : Below w6.heap.size w6 (w6.alloc (.cells #[.bool p8, .slice A8 l8.length c8] 24)) := (Below.refl _ _).alloc (Nat.le_refl _) _
  replace t4 := t4.below bn t4.lt
  replace bel := bel.trans (bn.mono bel.size)
  replace E1 := E1.below bn
  replace t6 := t6.below bn t6.lt
  replace E2 := E2.below bn
  replace t7 := t7.below bn t7.lt
  replace E8 := E8.below bn
  clear bn
  generalize (w6.alloc (.cells #[.bool p8, .slice A8 l8.length c8] 24)) = v3 at t4 bel E1 t6 E2 t7 E8 t8 ⊢
  generalize w6.heap.size = g8 at t4 bel E1 t6 E2 t7 E8 t8 hg8 ⊢
  have t6_0 := t6.c0
  have t6_1 := t6.c1
  have t8_0 := t8.c0
  have t8_1 := t8.c1
  go_wp2_with fail
  refine (HD1.out _ _ _ _ _ _ _ _ _ E1 E8).mono ?_
  rintro e w7 ⟨p9, A9, c9, l9, pa, Aa, ca, la, rfl, E9, Ea, hb⟩
  clear t6_0 t6_1 t8_0 t8_1
  clear E1 t6
  replace t4 := t4.below hb t4.lt
  replace bel := bel.trans (hb.mono bel.size)
  replace E2 := E2.below hb
  replace t7 := t7.below hb t7.lt
  replace E8 := E8.below hb
  replace t8 := t8.below hb t8.lt
  clear hb
  clear Ea
  go_upto_region 12 with (fail)
  have hg9 : g8 < w7.heap.size := t8.lt
  have t9 : Two ((w7.alloc (.cells #[.bool p9, .slice A9 l9.length c9] 24)).alloc (.cells #[.bool pa, .slice Aa la.length ca] 24)) w7.heap.size (.bool p9) (.slice A9 l9.length c9) := (Two.new_ w7 (.bool p9) (.slice A9 l9.length c9) 24).alloc _
  have t10 : Two ((w7.alloc (.cells #[.bool p9, .slice A9 l9.length c9] 24)).alloc (.cells #[.bool pa, .slice Aa la.length ca] 24)) (w7.heap.size + 1) (.bool pa) (.slice Aa la.length ca) := by simpa only [World.size_alloc, Nat.add_assoc, Nat.reduceAdd] using Two.new_ (w7.alloc (.cells #[.bool p9, .slice A9 l9.length c9] 24)) (.bool pa) (.slice Aa la.length ca) 24
  have bn : Below w7.heap.size w7 ((w7.alloc (.cells #[.bool p9, .slice A9 l9.length c9] 24)).alloc (.cells #[.bool pa, .slice Aa la.length ca] 24)) := ((Below.refl _ _).alloc (Nat.le_refl _) _).alloc (by simp only [World.size_alloc]; omega) _
  replace t4 := t4.below bn t4.lt
  replace bel := bel.trans (bn.mono bel.size)
  replace E2 := E2.below bn
  replace t7 := t7.below bn t7.lt
  replace E8 := E8.below bn
  replace t8 := t8.below bn t8.lt
  replace E9 := E9.below bn
  clear bn
  generalize ((w7.alloc (.cells #[.bool p9, .slice A9 l9.length c9] 24)).alloc (.cells #[.bool pa, .slice Aa la.length ca] 24)) = v4 at t4 bel E2 t7 E8 t8 E9 t9 t10 ⊢
  generalize w7.heap.size = g9 at t4 bel E2 t7 E8 t8 E9 t9 t10 hg9 ⊢
  clear t10
  have t7_0 := t7.c0
  have t7_1 := t7.c1
  have t8_0 := t8.c0
  have t8_1 := t8.c1
  go_wp2_with fail
  refine (HD2.out _ _ _ _ _ _ _ _ _ E2 E8).mono ?_
  rintro e w8 ⟨pb, Ab, cb, lb, pc, Ac, cc, lc, rfl, Eb, Ec, hb⟩
  clear t7_0 t7_1 t8_0 t8_1
  clear E2 E8 t7 t8
  replace t4 := t4.below hb t4.lt
  replace bel := bel.trans (hb.mono bel.size)
  replace E9 := E9.below hb
  replace t9 := t9.below hb t9.lt
  clear hb
  clear Ec
  go_upto_region 13 with (fail)
  have hgb : g9 < w8.heap.size := t9.lt
  have tb : Two ((w8.alloc (.cells #[.bool pb, .slice Ab lb.length cb] 24)).alloc (.cells #[.bool pc, .slice Ac lc.length cc] 24)) w8.heap.size (.bool pb) (.slice Ab lb.length cb) := (Two.new_ w8 (.bool pb) (.slice Ab lb.length cb) 24).alloc _
  have tc : Two ((w8.alloc (.cells #[.bool pb, .slice Ab lb.length cb] 24)).alloc (.cells #[.bool pc, .slice Ac lc.length cc] 24)) (w8.heap.size + 1) (.bool pc) (.slice Ac lc.length cc) := by simpa only [World.size_alloc, Nat.add_assoc, Nat.reduceAdd] using Two.new_ (w8.alloc (.cells #[.bool pb, .slice Ab lb.length cb] 24)) (.bool pc) (.slice Ac lc.length cc) 24
  have bn : Below w8.heap.size w8 ((w8.alloc (.cells #[.bool pb, .slice Ab lb.length cb] 24)).alloc (.cells #[.bool pc, .slice Ac lc.length cc] 24)) := ((Below.refl _ _).alloc (Nat.le_refl _) _).alloc (by simp only [World.size_alloc]; omega) _
  replace t4 := t4.below bn t4.lt
  replace bel := bel.trans (bn.mono bel.size)
  replace E9 := E9.below bn
  replace t9 := t9.below bn t9.lt
  replace Eb := Eb.below bn
  clear bn
  generalize ((w8.alloc (.cells #[.bool pb, .slice Ab lb.length cb] 24)).alloc (.cells #[.bool pc, .slice Ac lc.length cc] 24)) = v5 at t4 bel E9 t9 Eb tb tc ⊢
  generalize w8.heap.size = gb at t4 bel E9 t9 Eb tb tc hgb ⊢
  clear tc
  obtain rfl : p9 = decide (z.num < 0) := E9.can.1
  obtain rfl : pb = false := Eb.can.1.trans (decide_eq_false (by have := rq_den_pos z; omega))
  have t9_0 := t9.c0
  have t9_1 := t9.c1
  have tb_0 := tb.c0
  have tb_1 := tb.c1
  have d0 := t4.c0
  have d1 := t4.c1
  have d2 := t4.c2
  have d3 := t4.c3
  have f0 := t4.fr 0
  have f1 := t4.fr 1
  have f2 := t4.fr 2
  have f3 := t4.fr 3
  have R := Lib.hid (t4.put (.bool (decide (z.num < 0))) (.slice A9 l9.length c9) (.bool false) (.slice Ab lb.length cb))
  have CR := Lib.hid ((⟨E9, Eb⟩ : Cr _ _ _ _ _ _ _ z _).put4 t4 (.bool (decide (z.num < 0))) (.slice A9 l9.length c9) (.bool false) (.slice Ab lb.length cb))
  have BL := Lib.hid (below_set4 bel (b := w.heap.size + 2) (by omega) (.bool (decide (z.num < 0))) (.slice A9 l9.length c9) (.bool false) (.slice Ab lb.length cb))
  clear t4 bel E9 t9 Eb tb
  go_wp2_with fail
  have r0 := R.out.c0
  have r1 := R.out.c1
  have r2 := R.out.c2
  have r3 := R.out.c3
  unfold set4 at r0 r1 r2 r3
  refine bodyPost_ret (v := .tuple #[.agg #[.bool (decide (z.num < 0)), .slice A9 l9.length c9, .bool false, .slice Ab lb.length cb], .int .i64 0]) (by simp [results, Tryz.results18, go_sem, r0, r1, r2, r3]) rfl ?_
  exact ⟨A9, c9, l9, Ab, cb, lb, rfl, CR.out, BL.out⟩
end Go.Proofs.YtpfaddgcfacgdaaGreatDoor
/- Walks of package rational: New of the reference, errors and zero. -/
namespace Go.Proofs.YtpfaddgcfacgdaaGreatDoor
open Go.RowKit
set_option linter.unusedVariables false

set_option maxRecDepth 100000 in
set_option maxHeartbeats 3000000 in
theorem grnew0 {x y : Int} {n : Nat} {p : Bool} {A : Option Addr} {c : Nat} {l : List Nat} {q : Bool} {B : Option Addr} {d : Nat} {m : List Nat} {w : World} (h1 : Iv w p A c l x n) (h2 : Iv w q B d m y n) (hy : y = 0) (hn : n ≤ 100) :
    Calls Tryz.prog 18 #[.agg #[.bool p, .slice A l.length c], .agg #[.bool q, .slice B m.length d]] w fun e w' => e = .returned (.tuple #[ratV false none 0 0 false none 0 0, .int .i64 3]) ∧ Below w.heap.size w w' := by
  unfold ratV
  have HC1 := Lib.hid (fun (W : World) (h : Iv W p A c l x n) => grclean h hn)
  have HC2 := Lib.hid (fun (W : World) (h : Iv W q B d m y n) => grclean h hn)
  have HZ1 := Lib.hid (fun (W : World) (p4 : Bool) (A4 : Option Addr) (c4 : Nat) (l4 : List Nat) (h : Cn W p4 A4 c4 l4 y n) => (by have h := grz h.iv hn; rwa [decide_eq_true hy] at h : Calls Tryz.prog 56 #[.agg #[.bool p4, .slice A4 l4.length c4]] W fun e w' => e = .returned (.bool true) ∧ Below W.heap.size W w'))
  have HN := Lib.hid hn
  clear hn hy
  go_enter Tryz.func18, Tryz.ntmps18
  go_wp2_with fail
  have t2 : Two (((w.alloc (.cells #[.bool p, .slice A l.length c] 24)).alloc (.cells #[.bool q, .slice B m.length d] 24)).alloc (.cells #[.bool false, .slice none 0 0, .bool false, .slice none 0 0] 26)) w.heap.size (.bool p) (.slice A l.length c) := ((Two.new_ w (.bool p) (.slice A l.length c) 24).alloc _).alloc _
  have t3 : Two (((w.alloc (.cells #[.bool p, .slice A l.length c] 24)).alloc (.cells #[.bool q, .slice B m.length d] 24)).alloc (.cells #[.bool false, .slice none 0 0, .bool false, .slice none 0 0] 26)) (w.heap.size + 1) (.bool q) (.slice B m.length d) := by simpa only [World.size_alloc, Nat.add_assoc, Nat.reduceAdd] using (Two.new_ (w.alloc (.cells #[.bool p, .slice A l.length c] 24)) (.bool q) (.slice B m.length d) 24).alloc _
  have t4 : Four (((w.alloc (.cells #[.bool p, .slice A l.length c] 24)).alloc (.cells #[.bool q, .slice B m.length d] 24)).alloc (.cells #[.bool false, .slice none 0 0, .bool false, .slice none 0 0] 26)) (w.heap.size + 2) (.bool false) (.slice none 0 0) (.bool false) (.slice none 0 0) := by simpa only [World.size_alloc, Nat.add_assoc, Nat.reduceAdd] using Four.new_ ((w.alloc (.cells #[.bool p, .slice A l.length c] 24)).alloc (.cells #[.bool q, .slice B m.length d] 24)) (.bool false) (.slice none 0 0) (.bool false) (.slice none 0 0) 26
  have bel : Below w.heap.size w (((w.alloc (.cells #[.bool p, .slice A l.length c] 24)).alloc (.cells #[.bool q, .slice B m.length d] 24)).alloc (.cells #[.bool false, .slice none 0 0, .bool false, .slice none 0 0] 26)) := (((Below.refl _ _).alloc (Nat.le_refl _) _).alloc (by simp only [World.size_alloc]; omega) _).alloc (by simp only [World.size_alloc]; omega) _
  generalize (((w.alloc (.cells #[.bool p, .slice A l.length c] 24)).alloc (.cells #[.bool q, .slice B m.length d] 24)).alloc (.cells #[.bool false, .slice none 0 0, .bool false, .slice none 0 0] 26)) = wx at t2 t3 t4 bel ⊢
  have X := h1.below bel
  have t2_0 := t2.c0
  have t2_1 := t2.c1
  go_wp2_with fail
  refine (HC1.out _ X).mono ?_
  rintro e w2 ⟨p3, A3, c3, l3, rfl, E1, hb⟩
  clear t2_0 t2_1
  clear t2
  replace t3 := t3.below hb t3.lt
  replace t4 := t4.below hb t4.lt
  replace bel := bel.trans (hb.mono bel.size)
  clear hb
  clear X
  go_upto_region 2 with (fail)
  have hg6 : w.heap.size + 2 < w2.heap.size := t4.lt
  have t6 : Two (w2.alloc (.cells #[.bool p3, .slice A3 l3.length c3] 24)) w2.heap.size (.bool p3) (.slice A3 l3.length c3) := Two.new_ w2 (.bool p3) (.slice A3 l3.length c3) 24
  have bn : Below w2.heap.size w2 (w2.alloc (.cells #[.bool p3, .slice A3 l3.length c3] 24)) := (Below.refl _ _).alloc (Nat.le_refl _) _
  replace t3 := t3.below bn t3.lt
  replace t4 := t4.below bn t4.lt
  replace bel := bel.trans (bn.mono bel.size)
  replace E1 := E1.below bn
  clear bn
  generalize (w2.alloc (.cells #[.bool p3, .slice A3 l3.length c3] 24)) = v1 at t3 t4 bel E1 t6 ⊢
  generalize w2.heap.size = g6 at t3 t4 bel E1 t6 hg6 ⊢
  have Y := h2.below bel
  have t3_0 := t3.c0
  have t3_1 := t3.c1
  go_wp2_with fail
  refine (HC2.out _ Y).mono ?_
  rintro e w3 ⟨p4, A4, c4, l4, rfl, E2, hb⟩
  clear t3_0 t3_1
  clear t3
  replace t4 := t4.below hb t4.lt
  replace bel := bel.trans (hb.mono bel.size)
  replace E1 := E1.below hb
  replace t6 := t6.below hb t6.lt
  clear hb
  clear Y
  go_upto_region 3 with (fail)
  have hg7 : g6 < w3.heap.size := t6.lt
  have t7 : Two (w3.alloc (.cells #[.bool p4, .slice A4 l4.length c4] 24)) w3.heap.size (.bool p4) (.slice A4 l4.length c4) := Two.new_ w3 (.bool p4) (.slice A4 l4.length c4) 24
  have bn : Below w3.heap.size w3 (w3.alloc (.cells #[.bool p4, .slice A4 l4.length c4] 24)) := (Below.refl _ _).alloc (Nat.le_refl _) _
  replace t4 := t4.below bn t4.lt
  replace bel := bel.trans (bn.mono bel.size)
  replace E1 := E1.below bn
  replace t6 := t6.below bn t6.lt
  replace E2 := E2.below bn
  clear bn
  generalize (w3.alloc (.cells #[.bool p4, .slice A4 l4.length c4] 24)) = v2 at t4 bel E1 t6 E2 t7 ⊢
  generalize w3.heap.size = g7 at t4 bel E1 t6 E2 t7 hg7 ⊢
  have t7_0 := t7.c0
  have t7_1 := t7.c1
  go_wp2_with fail
  refine (HZ1.out _ _ _ _ _ E2).mono ?_
  rintro e w4 ⟨rfl, hb⟩
  clear t7_0 t7_1
  replace t4 := t4.below hb t4.lt
  replace bel := bel.trans (hb.mono bel.size)
  replace E1 := E1.below hb
  replace t6 := t6.below hb t6.lt
  replace E2 := E2.below hb
  replace t7 := t7.below hb t7.lt
  clear hb
  have d0 := t4.c0
  have d1 := t4.c1
  have d2 := t4.c2
  have d3 := t4.c3
  have f0 := t4.fr 0
  have f1 := t4.fr 1
  have f2 := t4.fr 2
  have f3 := t4.fr 3
  have R := Lib.hid (t4.put (.bool false) (.slice none 0 0) (.bool false) (.slice none 0 0))
  have BL := Lib.hid (below_set4 bel (b := w.heap.size + 2) (by omega) (.bool false) (.slice none 0 0) (.bool false) (.slice none 0 0))
  clear t4 bel E1 t6 E2 t7
  go_wp2_with fail
  have r0 := R.out.c0
  have r1 := R.out.c1
  have r2 := R.out.c2
  have r3 := R.out.c3
  unfold set4 at r0 r1 r2 r3
  refine bodyPost_ret (v := .tuple #[.agg #[.bool false, .slice none 0 0, .bool false, .slice none 0 0], .int .i64 3]) (by simp [results, Tryz.results18, go_sem, r0, r1, r2, r3]) rfl ?_
  exact ⟨rfl, BL.out⟩

set_option maxRecDepth 100000 in
set_option maxHeartbeats 3000000 in
theorem rnew_zero {x y : Int} {z : Rat} {n : Nat} {p : Bool} {A : Option Addr} {c : Nat} {l : List Nat} {q : Bool} {B : Option Addr} {d : Nat} {m : List Nat} {w : World} (h1 : Iv w p A c l x n) (h2 : Iv w q B d m y n) (hn : n ≤ 100) (hn1 : 1 ≤ n) (hy : ¬ y = 0) (hx : x = 0) (hz : z = 0) :
    Calls Tryz.prog 18 #[.agg #[.bool p, .slice A l.length c], .agg #[.bool q, .slice B m.length d]] w (GRc z n w) := by
  have HC1 := Lib.hid (fun (W : World) (h : Iv W p A c l x n) => grclean h hn)
  have HC2 := Lib.hid (fun (W : World) (h : Iv W q B d m y n) => grclean h hn)
  have HZ1 := Lib.hid (fun (W : World) (p4 : Bool) (A4 : Option Addr) (c4 : Nat) (l4 : List Nat) (h : Cn W p4 A4 c4 l4 y n) => (by have h := grz h.iv hn; rwa [decide_eq_false hy] at h : Calls Tryz.prog 56 #[.agg #[.bool p4, .slice A4 l4.length c4]] W fun e w' => e = .returned (.bool false) ∧ Below W.heap.size W w'))
  have HZ2 := Lib.hid (fun (W : World) (p4 : Bool) (A4 : Option Addr) (c4 : Nat) (l4 : List Nat) (h : Cn W p4 A4 c4 l4 x n) => (by have h := grz h.iv hn; rwa [decide_eq_true hx] at h : Calls Tryz.prog 56 #[.agg #[.bool p4, .slice A4 l4.length c4]] W fun e w' => e = .returned (.bool true) ∧ Below W.heap.size W w'))
  have HZR : Hid (∀ W, Calls Tryz.prog 50 #[] W (GR z 1 W)) := Lib.hid (fun W => by rw [hz]; exact grzero W)
  have HN1 := Lib.hid hn1
  have HN := Lib.hid hn
  clear hn hy hx hz hn1
  go_enter Tryz.func18, Tryz.ntmps18
  go_wp2_with fail
  have t2 : Two (((w.alloc (.cells #[.bool p, .slice A l.length c] 24)).alloc (.cells #[.bool q, .slice B m.length d] 24)).alloc (.cells #[.bool false, .slice none 0 0, .bool false, .slice none 0 0] 26)) w.heap.size (.bool p) (.slice A l.length c) := ((Two.new_ w (.bool p) (.slice A l.length c) 24).alloc _).alloc _
  have t3 : Two (((w.alloc (.cells #[.bool p, .slice A l.length c] 24)).alloc (.cells #[.bool q, .slice B m.length d] 24)).alloc (.cells #[.bool false, .slice none 0 0, .bool false, .slice none 0 0] 26)) (w.heap.size + 1) (.bool q) (.slice B m.length d) := by simpa only [World.size_alloc, Nat.add_assoc, Nat.reduceAdd] using (Two.new_ (w.alloc (.cells #[.bool p, .slice A l.length c] 24)) (.bool q) (.slice B m.length d) 24).alloc _
  have t4 : Four (((w.alloc (.cells #[.bool p, .slice A l.length c] 24)).alloc (.cells #[.bool q, .slice B m.length d] 24)).alloc (.cells #[.bool false, .slice none 0 0, .bool false, .slice none 0 0] 26)) (w.heap.size + 2) (.bool false) (.slice none 0 0) (.bool false) (.slice none 0 0) := by simpa only [World.size_alloc, Nat.add_assoc, Nat.reduceAdd] using Four.new_ ((w.alloc (.cells #[.bool p, .slice A l.length c] 24)).alloc (.cells #[.bool q, .slice B m.length d] 24)) (.bool false) (.slice none 0 0) (.bool false) (.slice none 0 0) 26
  have bel : Below w.heap.size w (((w.alloc (.cells #[.bool p, .slice A l.length c] 24)).alloc (.cells #[.bool q, .slice B m.length d] 24)).alloc (.cells #[.bool false, .slice none 0 0, .bool false, .slice none 0 0] 26)) := (((Below.refl _ _).alloc (Nat.le_refl _) _).alloc (by simp only [World.size_alloc]; omega) _).alloc (by simp only [World.size_alloc]; omega) _
  generalize (((w.alloc (.cells #[.bool p, .slice A l.length c] 24)).alloc (.cells #[.bool q, .slice B m.length d] 24)).alloc (.cells #[.bool false, .slice none 0 0, .bool false, .slice none 0 0] 26)) = wx at t2 t3 t4 bel ⊢
  have X := h1.below bel
  have t2_0 := t2.c0
  have t2_1 := t2.c1
  go_wp2_with fail
  refine (HC1.out _ X).mono ?_
  rintro e w2 ⟨p3, A3, c3, l3, rfl, E1, hb⟩
  clear t2_0 t2_1
  clear t2
  replace t3 := t3.below hb t3.lt
  replace t4 := t4.below hb t4.lt
  replace bel := bel.trans (hb.mono bel.size)
  clear hb
  clear X
  go_upto_region 2 with (fail)
  have hg6 : w.heap.size + 2 < w2.heap.size := t4.lt
  have t6 : Two (w2.alloc (.cells #[.bool p3, .slice A3 l3.length c3] 24)) w2.heap.size (.bool p3) (.slice A3 l3.length c3) := Two.new_ w2 (.bool p3) (.slice A3 l3.length c3) 24
  have bn : Below w2.heap.size w2 (w2.alloc (.cells #[.bool p3, .slice A3 l3.length c3] 24)) := (Below.refl _ _).alloc (Nat.le_refl _) _
  replace t3 := t3.below bn t3.lt
  replace t4 := t4.below bn t4.lt
  replace bel := bel.trans (bn.mono bel.size)
  replace E1 := E1.below bn
  clear bn
  generalize (w2.alloc (.cells #[.bool p3, .slice A3 l3.length c3] 24)) = v1 at t3 t4 bel E1 t6 ⊢
  generalize w2.heap.size = g6 at t3 t4 bel E1 t6 hg6 ⊢
  have Y := h2.below bel
  have t3_0 := t3.c0
  have t3_1 := t3.c1
  go_wp2_with fail
  refine (HC2.out _ Y).mono ?_
  rintro e w3 ⟨p4, A4, c4, l4, rfl, E2, hb⟩
  clear t3_0 t3_1
  clear t3
  replace t4 := t4.below hb t4.lt
  replace bel := bel.trans (hb.mono bel.size)
  replace E1 := E1.below hb
  replace t6 := t6.below hb t6.lt
  clear hb
  clear Y
  go_upto_region 3 with (fail)
  have hg7 : g6 < w3.heap.size := t6.lt
  have t7 : Two (w3.alloc (.cells #[.bool p4, .slice A4 l4.length c4] 24)) w3.heap.size (.bool p4) (.slice A4 l4.length c4) := Two.new_ w3 (.bool p4) (.slice A4 l4.length c4) 24
  have bn : Below w3.heap.size w3 (w3.alloc (.cells #[.bool p4, .slice A4 l4.length c4] 24)) := (Below.refl _ _).alloc (Nat.le_refl _) _
  replace t4 := t4.below bn t4.lt
  replace bel := bel.trans (bn.mono bel.size)
  replace E1 := E1.below bn
  replace t6 := t6.below bn t6.lt
  replace E2 := E2.below bn
  clear bn
  generalize (w3.alloc (.cells #[.bool p4, .slice A4 l4.length c4] 24)) = v2 at t4 bel E1 t6 E2 t7 ⊢
  generalize w3.heap.size = g7 at t4 bel E1 t6 E2 t7 hg7 ⊢
  have t7_0 := t7.c0
  have t7_1 := t7.c1
  go_wp2_with fail
  refine (HZ1.out _ _ _ _ _ E2).mono ?_
  rintro e w4 ⟨rfl, hb⟩
  clear t7_0 t7_1
  replace t4 := t4.below hb t4.lt
  replace bel := bel.trans (hb.mono bel.size)
  replace E1 := E1.below hb
  replace t6 := t6.below hb t6.lt
  replace E2 := E2.below hb
  replace t7 := t7.below hb t7.lt
  clear hb
  have t6_0 := t6.c0
  have t6_1 := t6.c1
  go_wp2_with fail
  refine (HZ2.out _ _ _ _ _ E1).mono ?_
  rintro e w5 ⟨rfl, hb⟩
  clear t6_0 t6_1
  replace t4 := t4.below hb t4.lt
  replace bel := bel.trans (hb.mono bel.size)
  replace E1 := E1.below hb
  replace t6 := t6.below hb t6.lt
  replace E2 := E2.below hb
  replace t7 := t7.below hb t7.lt
  clear hb
  go_wp2_with fail
  refine (HZR.out _).mono ?_
  rintro e w6 ⟨A5, c5, l5, A6, c6, l6, rfl, CC, hb⟩
  replace t4 := t4.below hb t4.lt
  replace bel := bel.trans (hb.mono bel.size)
  replace E1 := E1.below hb
  replace t6 := t6.below hb t6.lt
  replace E2 := E2.below hb
  replace t7 := t7.below hb t7.lt
  clear hb
  have d0 := t4.c0
  have d1 := t4.c1
  have d2 := t4.c2
  have d3 := t4.c3
  have f0 := t4.fr 0
  have f1 := t4.fr 1
  have f2 := t4.fr 2
  have f3 := t4.fr 3
  have R := Lib.hid (t4.put (.bool (decide (z.num < 0))) (.slice A5 l5.length c5) (.bool false) (.slice A6 l6.length c6))
  have CR := Lib.hid (CC.put4 t4 (.bool (decide (z.num < 0))) (.slice A5 l5.length c5) (.bool false) (.slice A6 l6.length c6))
  have BL := Lib.hid (below_set4 bel (b := w.heap.size + 2) (by omega) (.bool (decide (z.num < 0))) (.slice A5 l5.length c5) (.bool false) (.slice A6 l6.length c6))
  clear t4 bel E1 t6 E2 t7 CC
  go_wp2_with fail
  have r0 := R.out.c0
  have r1 := R.out.c1
  have r2 := R.out.c2
  have r3 := R.out.c3
  unfold set4 at r0 r1 r2 r3
  refine bodyPost_ret (v := .tuple #[.agg #[.bool (decide (z.num < 0)), .slice A5 l5.length c5, .bool false, .slice A6 l6.length c6], .int .i64 0]) (by simp [results, Tryz.results18, go_sem, r0, r1, r2, r3]) rfl ?_
  exact ⟨A5, c5, l5, A6, c6, l6, rfl, CR.out.more_ HN1.out, BL.out⟩
end Go.Proofs.YtpfaddgcfacgdaaGreatDoor
/- Walks of package rational: New whole and Clean of the reference. -/
namespace Go.Proofs.YtpfaddgcfacgdaaGreatDoor
open Go.RowKit
set_option linter.unusedVariables false

theorem grnew {x y : Int} {n : Nat} {p : Bool} {A : Option Addr} {c : Nat} {l : List Nat} {q : Bool} {B : Option Addr} {d : Nat} {m : List Nat} {w : World} (h1 : Iv w p A c l x n) (h2 : Iv w q B d m y n) (hy : y ≠ 0) (hn : n ≤ 100) (hn1 : 1 ≤ n) :
    Calls Tryz.prog 18 #[.agg #[.bool p, .slice A l.length c], .agg #[.bool q, .slice B m.length d]] w (GRc (Rat.divInt x y) n w) := by
  by_cases hx : x = 0
  · exact rnew_zero h1 h2 hn hn1 hy hx (by rw [hx]; exact Rat.zero_divInt y)
  · rcases Int.lt_or_gt_of_ne hy with h | h
    · exact rnew_neg h1 h2 hn hn1 h hx rfl
    · exact rnew_pos h1 h2 hn hn1 h hx rfl
theorem grofi {a : Int} (h : -9223372036854775808 ≤ a ∧ a ≤ 9223372036854775807) (w : World) : Calls Tryz.prog 89 #[.int .i64 a] w (GI a 2 w) :=
  (rof_any a (Lib.hid h.1) (Lib.hid h.2) w).mono fun _ _ hr => GI.of hr (by
    have e : Kn.pw 2 = 18446744073709551616 := by decide
    rw [e]; omega)

set_option maxRecDepth 100000 in
set_option maxHeartbeats 3000000 in
theorem rcl_zero {x y : Int} {n : Nat} {p : Bool} {A : Option Addr} {c : Nat} {l : List Nat} {q : Bool} {B : Option Addr} {d : Nat} {m : List Nat} {w : World} (h1 : Iv w p A c l x n) (h2 : Iv w q B d m y n) {z : Rat} (hz : z = Rat.divInt x y) (hy : y = 0) (hn : n ≤ 100) (hn1 : 1 ≤ n) :
    Calls Tryz.prog 15 #[ratV p A l.length c q B m.length d] w (GR z n w) := by
  have HNW := Lib.hid (fun (W : World) (h1 : Iv W p A c l x n) (h2 : Iv W q B d m y n) => (grnew0 h1 h2 hy hn : Calls Tryz.prog 18 #[.agg #[.bool p, .slice A l.length c], .agg #[.bool q, .slice B m.length d]] W fun e w' => e = .returned (.tuple #[.agg #[.bool false, .slice none 0 0, .bool false, .slice none 0 0], .int .i64 3]) ∧ Below W.heap.size W w'))
  have HZR : Hid (∀ W, Calls Tryz.prog 50 #[] W (GR z 1 W)) := Lib.hid (fun W => by rw [hz, hy, Rat.divInt_zero]; exact grzero W)
  have HN1 := Lib.hid hn1
  clear hz hn hn1 hy
  unfold ratV
  go_enter Tryz.func15, Tryz.ntmps15
  go_wp2_with fail
  have t1 : Four ((w.alloc (.cells #[.bool p, .slice A l.length c, .bool q, .slice B m.length d] 26)).alloc (.cells #[.bool false, .slice none 0 0, .bool false, .slice none 0 0] 26)) w.heap.size (.bool p) (.slice A l.length c) (.bool q) (.slice B m.length d) := (Four.new_ w (.bool p) (.slice A l.length c) (.bool q) (.slice B m.length d) 26).alloc _
  have t2 : Four ((w.alloc (.cells #[.bool p, .slice A l.length c, .bool q, .slice B m.length d] 26)).alloc (.cells #[.bool false, .slice none 0 0, .bool false, .slice none 0 0] 26)) (w.heap.size + 1) (.bool false) (.slice none 0 0) (.bool false) (.slice none 0 0) := by simpa only [World.size_alloc, Nat.add_assoc, Nat.reduceAdd] using Four.new_ (w.alloc (.cells #[.bool p, .slice A l.length c, .bool q, .slice B m.length d] 26)) (.bool false) (.slice none 0 0) (.bool false) (.slice none 0 0) 26
  have bel : Below w.heap.size w ((w.alloc (.cells #[.bool p, .slice A l.length c, .bool q, .slice B m.length d] 26)).alloc (.cells #[.bool false, .slice none 0 0, .bool false, .slice none 0 0] 26)) := ((Below.refl _ _).alloc (Nat.le_refl _) _).alloc (by simp only [World.size_alloc]; omega) _
  generalize ((w.alloc (.cells #[.bool p, .slice A l.length c, .bool q, .slice B m.length d] 26)).alloc (.cells #[.bool false, .slice none 0 0, .bool false, .slice none 0 0] 26)) = wx at t1 t2 bel ⊢
  have X := h1.below bel
  have Y := h2.below bel
  have t1_0 := t1.c0
  have t1_1 := t1.c1
  have t1_2 := t1.c2
  have t1_3 := t1.c3
  go_wp2_with fail
  refine (HNW.out _ X Y).mono ?_
  rintro e w2 ⟨rfl, hb⟩
  clear t1_0 t1_1 t1_2 t1_3
  clear t1
  replace t2 := t2.below hb t2.lt
  replace bel := bel.trans (hb.mono bel.size)
  clear hb
  clear X Y
  go_upto_region 2 with (fail)
  have hg3 : w.heap.size + 1 < w2.heap.size := t2.lt
  have t3 : Four (w2.alloc (.cells #[.bool false, .slice none 0 0, .bool false, .slice none 0 0] 26)) w2.heap.size (.bool false) (.slice none 0 0) (.bool false) (.slice none 0 0) := Four.new_ w2 (.bool false) (.slice none 0 0) (.bool false) (.slice none 0 0) 26
  have bn : Below w2.heap.size w2 (w2.alloc (.cells #[.bool false, .slice none 0 0, .bool false, .slice none 0 0] 26)) := (Below.refl _ _).alloc (Nat.le_refl _) _
  replace t2 := t2.below bn t2.lt
  replace bel := bel.trans (bn.mono bel.size)
  clear bn
  generalize (w2.alloc (.cells #[.bool false, .slice none 0 0, .bool false, .slice none 0 0] 26)) = v1 at t2 bel t3 ⊢
  generalize w2.heap.size = g3 at t2 bel t3 hg3 ⊢
  clear t3
  go_wp2_with fail
  refine (HZR.out _).mono ?_
  rintro e w3 ⟨A5, c5, l5, A6, c6, l6, rfl, CC, hb⟩
  replace t2 := t2.below hb t2.lt
  replace bel := bel.trans (hb.mono bel.size)
  clear hb
  have d0 := t2.c0
  have d1 := t2.c1
  have d2 := t2.c2
  have d3 := t2.c3
  have f0 := t2.fr 0
  have f1 := t2.fr 1
  have f2 := t2.fr 2
  have f3 := t2.fr 3
  have R := Lib.hid (t2.put (.bool (decide (z.num < 0))) (.slice A5 l5.length c5) (.bool false) (.slice A6 l6.length c6))
  have CR := Lib.hid (CC.put4 t2 (.bool (decide (z.num < 0))) (.slice A5 l5.length c5) (.bool false) (.slice A6 l6.length c6))
  have BL := Lib.hid (below_set4 bel (b := w.heap.size + 1) (by omega) (.bool (decide (z.num < 0))) (.slice A5 l5.length c5) (.bool false) (.slice A6 l6.length c6))
  clear t2 bel CC
  go_wp2_with fail
  have r0 := R.out.c0
  have r1 := R.out.c1
  have r2 := R.out.c2
  have r3 := R.out.c3
  unfold set4 at r0 r1 r2 r3
  refine bodyPost_ret (v := .agg #[.bool (decide (z.num < 0)), .slice A5 l5.length c5, .bool false, .slice A6 l6.length c6]) (by simp [results, Tryz.results15, go_sem, r0, r1, r2, r3]) rfl ?_
  exact ⟨A5, c5, l5, A6, c6, l6, rfl, CR.out.more_ HN1.out, BL.out⟩

set_option maxRecDepth 100000 in
set_option maxHeartbeats 3000000 in
theorem rcl_any {x y : Int} {n : Nat} {p : Bool} {A : Option Addr} {c : Nat} {l : List Nat} {q : Bool} {B : Option Addr} {d : Nat} {m : List Nat} {w : World} (h1 : Iv w p A c l x n) (h2 : Iv w q B d m y n) {z : Rat} (hz : z = Rat.divInt x y) (hy : y ≠ 0) (hn : n ≤ 100) (hn1 : 1 ≤ n) :
    Calls Tryz.prog 15 #[ratV p A l.length c q B m.length d] w (GR z n w) := by
  have HNW := Lib.hid (fun (W : World) (h1 : Iv W p A c l x n) (h2 : Iv W q B d m y n) => (by have h := grnew h1 h2 hy hn hn1; rw [← hz] at h; exact h : Calls Tryz.prog 18 #[.agg #[.bool p, .slice A l.length c], .agg #[.bool q, .slice B m.length d]] W (GRc z n W)))
  clear hz hn hn1 hy
  unfold ratV
  go_enter Tryz.func15, Tryz.ntmps15
  go_wp2_with fail
  have t1 : Four ((w.alloc (.cells #[.bool p, .slice A l.length c, .bool q, .slice B m.length d] 26)).alloc (.cells #[.bool false, .slice none 0 0, .bool false, .slice none 0 0] 26)) w.heap.size (.bool p) (.slice A l.length c) (.bool q) (.slice B m.length d) := (Four.new_ w (.bool p) (.slice A l.length c) (.bool q) (.slice B m.length d) 26).alloc _
  have t2 : Four ((w.alloc (.cells #[.bool p, .slice A l.length c, .bool q, .slice B m.length d] 26)).alloc (.cells #[.bool false, .slice none 0 0, .bool false, .slice none 0 0] 26)) (w.heap.size + 1) (.bool false) (.slice none 0 0) (.bool false) (.slice none 0 0) := by simpa only [World.size_alloc, Nat.add_assoc, Nat.reduceAdd] using Four.new_ (w.alloc (.cells #[.bool p, .slice A l.length c, .bool q, .slice B m.length d] 26)) (.bool false) (.slice none 0 0) (.bool false) (.slice none 0 0) 26
  have bel : Below w.heap.size w ((w.alloc (.cells #[.bool p, .slice A l.length c, .bool q, .slice B m.length d] 26)).alloc (.cells #[.bool false, .slice none 0 0, .bool false, .slice none 0 0] 26)) := ((Below.refl _ _).alloc (Nat.le_refl _) _).alloc (by simp only [World.size_alloc]; omega) _
  generalize ((w.alloc (.cells #[.bool p, .slice A l.length c, .bool q, .slice B m.length d] 26)).alloc (.cells #[.bool false, .slice none 0 0, .bool false, .slice none 0 0] 26)) = wx at t1 t2 bel ⊢
  have X := h1.below bel
  have Y := h2.below bel
  have t1_0 := t1.c0
  have t1_1 := t1.c1
  have t1_2 := t1.c2
  have t1_3 := t1.c3
  go_wp2_with fail
  refine (HNW.out _ X Y).mono ?_
  rintro e w2 ⟨A5, c5, l5, A6, c6, l6, rfl, CC, hb⟩
  clear t1_0 t1_1 t1_2 t1_3
  clear t1
  replace t2 := t2.below hb t2.lt
  replace bel := bel.trans (hb.mono bel.size)
  clear hb
  clear X Y
  go_upto_region 2 with (fail)
  have hg3 : w.heap.size + 1 < w2.heap.size := t2.lt
  have t3 : Four (w2.alloc (.cells #[.bool (decide (z.num < 0)), .slice A5 l5.length c5, .bool false, .slice A6 l6.length c6] 26)) w2.heap.size (.bool (decide (z.num < 0))) (.slice A5 l5.length c5) (.bool false) (.slice A6 l6.length c6) := Four.new_ w2 (.bool (decide (z.num < 0))) (.slice A5 l5.length c5) (.bool false) (.slice A6 l6.length c6) 26
  have bn : Below w2.heap.size w2 (w2.alloc (.cells #[.bool (decide (z.num < 0)), .slice A5 l5.length c5, .bool false, .slice A6 l6.length c6] 26)) := (Below.refl _ _).alloc (Nat.le_refl _) _
  replace t2 := t2.below bn t2.lt
  replace bel := bel.trans (bn.mono bel.size)
  replace CC := CC.below bn
  clear bn
  generalize (w2.alloc (.cells #[.bool (decide (z.num < 0)), .slice A5 l5.length c5, .bool false, .slice A6 l6.length c6] 26)) = v1 at t2 bel CC t3 ⊢
  generalize w2.heap.size = g3 at t2 bel CC t3 hg3 ⊢
  have t3_0 := t3.c0
  have t3_1 := t3.c1
  have t3_2 := t3.c2
  have t3_3 := t3.c3
  have d0 := t2.c0
  have d1 := t2.c1
  have d2 := t2.c2
  have d3 := t2.c3
  have f0 := t2.fr 0
  have f1 := t2.fr 1
  have f2 := t2.fr 2
  have f3 := t2.fr 3
  have R := Lib.hid (t2.put (.bool (decide (z.num < 0))) (.slice A5 l5.length c5) (.bool false) (.slice A6 l6.length c6))
  have CR := Lib.hid (CC.put4 t2 (.bool (decide (z.num < 0))) (.slice A5 l5.length c5) (.bool false) (.slice A6 l6.length c6))
  have BL := Lib.hid (below_set4 bel (b := w.heap.size + 1) (by omega) (.bool (decide (z.num < 0))) (.slice A5 l5.length c5) (.bool false) (.slice A6 l6.length c6))
  clear t2 bel CC t3
  go_wp2_with fail
  have r0 := R.out.c0
  have r1 := R.out.c1
  have r2 := R.out.c2
  have r3 := R.out.c3
  unfold set4 at r0 r1 r2 r3
  refine bodyPost_ret (v := .agg #[.bool (decide (z.num < 0)), .slice A5 l5.length c5, .bool false, .slice A6 l6.length c6]) (by simp [results, Tryz.results15, go_sem, r0, r1, r2, r3]) rfl ?_
  exact ⟨A5, c5, l5, A6, c6, l6, rfl, CR.out, BL.out⟩
theorem grrcl {x y : Int} {n : Nat} {p : Bool} {A : Option Addr} {c : Nat} {l : List Nat} {q : Bool} {B : Option Addr} {d : Nat} {m : List Nat} {w : World} (h1 : Iv w p A c l x n) (h2 : Iv w q B d m y n) (hn : n ≤ 100) (hn1 : 1 ≤ n) :
    Calls Tryz.prog 15 #[ratV p A l.length c q B m.length d] w (GR (Rat.divInt x y) n w) := by
  by_cases hy : y = 0
  · exact rcl_zero h1 h2 rfl hy hn hn1
  · exact rcl_any h1 h2 rfl hy hn hn1
end Go.Proofs.YtpfaddgcfacgdaaGreatDoor
