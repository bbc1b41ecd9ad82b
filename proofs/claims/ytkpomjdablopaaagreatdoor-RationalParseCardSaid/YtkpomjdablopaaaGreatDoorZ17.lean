/- My texts, packed: Sc, Sb, Sf, Sg, V1, LawClean, N1. -/
import Derived.Test.YtkpomjdablopaaaGreatDoorZ16
import Derived.Test.YtkpomjdablopaaaGreatDoorZ11
import Derived.Test.YtkpomjdablopaaaGreatDoorZ12
import Derived.Test.YtkpomjdablopaaaGreatDoorZ14
/- Walks of package rational: New of the reference, a denominator above 0. -/
namespace Go.Proofs.YtkpomjdablopaaaGreatDoor
open Go.RowKit
set_option linter.unusedVariables false

set_option maxRecDepth 100000 in
set_option maxHeartbeats 3000000 in
theorem rnew_pos {x y : Int} {z : Rat} {n : Nat} {p : Bool} {A : Option Addr} {c : Nat} {l : List Nat} {q : Bool} {B : Option Addr} {d : Nat} {m : List Nat} {w : World} (h1 : Iv w p A c l x n) (h2 : Iv w q B d m y n) (hn : n ≤ 100) (hn1 : 1 ≤ n) (hy : 0 < y) (hx : ¬ x = 0) (hz : z = Rat.divInt x y) :
    Calls Tryz.prog 33 #[.agg #[.bool p, .slice A l.length c], .agg #[.bool q, .slice B m.length d]] w (GRc z n w) := by
  have HC1 := Lib.hid (fun (W : World) (h : Iv W p A c l x n) => grclean h hn)
  have HC2 := Lib.hid (fun (W : World) (h : Iv W q B d m y n) => grclean h hn)
  have HZ1 := Lib.hid (fun (W : World) (p4 : Bool) (A4 : Option Addr) (c4 : Nat) (l4 : List Nat) (h : Cn W p4 A4 c4 l4 y n) => (by have h := grz h.iv hn; rwa [decide_eq_false (by omega)] at h : Calls Tryz.prog 71 #[.agg #[.bool p4, .slice A4 l4.length c4]] W fun e w' => e = .returned (.bool false) ∧ Below W.heap.size W w'))
  have HZ2 := Lib.hid (fun (W : World) (p4 : Bool) (A4 : Option Addr) (c4 : Nat) (l4 : List Nat) (h : Cn W p4 A4 c4 l4 x n) => (by have h := grz h.iv hn; rwa [decide_eq_false hx] at h : Calls Tryz.prog 71 #[.agg #[.bool p4, .slice A4 l4.length c4]] W fun e w' => e = .returned (.bool false) ∧ Below W.heap.size W w'))
  obtain ⟨x1, hx1⟩ : ∃ v : Int, v = x := ⟨_, rfl⟩
  obtain ⟨y1, hy1⟩ : ∃ v : Int, v = y := ⟨_, rfl⟩
  have hy0 : 0 < y1 := by omega
  have hzz : z = Rat.divInt x1 y1 := by rw [hz, hx1, hy1]
  obtain ⟨G, hG⟩ : ∃ G : Int, G = (Nat.gcd x1.natAbs y1.natAbs : Int) := ⟨_, rfl⟩
  have hpar := rq_parts (n := x1) hy0
  rw [← hzz, ← hG] at hpar
  have hG0 : G ≠ 0 := by
    have : 0 < Nat.gcd x1.natAbs y1.natAbs := Nat.gcd_pos_of_pos_right _ (by omega)
    omega
  have HG := Lib.hid (fun (W : World) (p4 : Bool) (A4 : Option Addr) (c4 : Nat) (l4 : List Nat) (p5 : Bool) (A5 : Option Addr) (c5 : Nat) (l5 : List Nat) (h : Cn W p4 A4 c4 l4 x1 n) (h' : Cn W p5 A5 c5 l5 y1 n) => (by have h := grgcd h.iv h'.iv hn hn; rw [← hG, Nat.max_self] at h; exact h : Calls Tryz.prog 72 #[.agg #[.bool p4, .slice A4 l4.length c4], .agg #[.bool p5, .slice A5 l5.length c5]] W (GI G n W)))
  have HD1 := Lib.hid (fun (W : World) (p4 : Bool) (A4 : Option Addr) (c4 : Nat) (l4 : List Nat) (p5 : Bool) (A5 : Option Addr) (c5 : Nat) (l5 : List Nat) (h : Cn W p4 A4 c4 l4 x1 n) (h' : Cn W p5 A5 c5 l5 G n) => (by have h := grdivide h.iv h'.iv hG0 hn hn; rw [← hpar.1] at h; exact h : Calls Tryz.prog 73 #[.agg #[.bool p4, .slice A4 l4.length c4], .agg #[.bool p5, .slice A5 l5.length c5]] W (GI2 z.num (x1.fmod G) n n W)))
  have HD2 := Lib.hid (fun (W : World) (p4 : Bool) (A4 : Option Addr) (c4 : Nat) (l4 : List Nat) (p5 : Bool) (A5 : Option Addr) (c5 : Nat) (l5 : List Nat) (h : Cn W p4 A4 c4 l4 y1 n) (h' : Cn W p5 A5 c5 l5 G n) => (by have h := grdivide h.iv h'.iv hG0 hn hn; rw [← hpar.2] at h; exact h : Calls Tryz.prog 73 #[.agg #[.bool p4, .slice A4 l4.length c4], .agg #[.bool p5, .slice A5 l5.length c5]] W (GI2 (z.den : Int) (y1.fmod G) n n W)))
  have HSG : Hid (decide (y < 0) = false) := Lib.hid (decide_eq_false (by omega))
  have HXX := Lib.hid hx1
  clear hy0 hzz hG hpar hG0
  have HYY := Lib.hid hy1
  clear hx1 hy1
  have HN := Lib.hid hn
  clear hn hy hx hz hn1
  go_enter Tryz.func33, Tryz.ntmps33
  go_wp2_with fail
  have t2 : Two (((w.alloc (.cells #[.bool p, .slice A l.length c] 24)).alloc (.cells #[.bool q, .slice B m.length d] 24)).alloc (.cells #[.bool false, .slice none 0 0, .bool false, .slice none 0 0] 26)) w.heap.size (.bool p) (.slice A l.length c) := ((Two.new_ w (.bool p) (.slice A l.length c) 24).alloc _).alloc _
  have t3 : Two (((w.alloc (.cells #[.bool p, .slice A l.length c] 24)).alloc (.cells #[.bool q, .slice B m.length d] 24)).alloc (.cells #[.bool false, .slice none 0 0, .bool false, .slice none 0 0] 26)) (w.heap.size + 1) (.bool q) (.slice B m.length d) := by simpa only [World.size_alloc, Nat.add_assoc, Nat.reduceAdd] using (Two.new_ (w.alloc (.cells #[.bool p, .slice A l.length c] 24)) (.bool q) (.slice B m.length d) 24).alloc _
  have t4 : Four (((w.alloc (.cells #[.bool p, .slice A l.length c] 24)).alloc (.cells #[.bool q, .slice B m.length d] 24)).alloc (.cells #[.bool false, .slice none 0 0, .bool false, .slice none 0 0] 26)) (w.heap.size + 2) (.bool false) (.slice none 0 0) (.bool false) (.slice none 0 0) := by simpa only [World.size_alloc, Nat.add_assoc, Nat.reduceAdd] using Four.new_ ((w.alloc (.cells #[.bool p, .slice A l.length c] 24)).alloc (.cells #[.bool q, .slice B m.length d] 24)) (.bool false) (.slice none 0 0) (.bool false) (.slice none 0 0) 26
  have bel : Below w.heap.size w (((w.alloc (.cells #[.bool p, .slice A l.length c] 24)).alloc (.cells #[.bool q, .slice B m.length d] 24)).alloc (.cells #[.bool false, .slice none 0 0, .bool false, .slice none 0 0] 26)) := (((Below.refl _ _).alloc (Nat.le_refl _) _).alloc (by simp only [World.size_alloc]; omega) _).alloc (by simp only [World.size_alloc]; omega) _
  generalize (((w.alloc (.cells #[.bool p, .slice A l.length c] 24)).alloc (.cells #[.bool q, .slice B m.length d] 24)).alloc (.cells #[.bool false, .slice none 0 0, .bool false, .slice none 0 0] 26)) = wx at t2 t3 t4 bel ⊢
  have X := h1.below bel
  have t2_0 := t2.c0
  have t2_1 := t2.c1
  go_wp2_with fail
  refine (HC1.out _ X).mono ?_
  rintro e w2 ⟨p3, A3, c3, l3, rfl, E1, hb⟩
  clear t2_0 t2_1
  clear t2
  replace t3 := t3.below hb t3.lt
  replace t4 := t4.below hb t4.lt
  replace bel := bel.trans (hb.mono bel.size)
  clear hb
  clear X
  go_upto_region 2 with (fail)
  have hg6 : w.heap.size + 2 < w2.heap.size := t4.lt
  have t6 : Two (w2.alloc (.cells #[.bool p3, .slice A3 l3.length c3] 24)) w2.heap.size (.bool p3) (.slice A3 l3.length c3) := Two.new_ w2 (.bool p3) (.slice A3 l3.length c3) 24
  have bn : Below w2.heap.size w2 (w2.alloc (.cells #[.bool p3, .slice A3 l3.length c3] 24)) := (Below.refl _ _).alloc (Nat.le_refl _) _
  replace t3 := t3.below bn t3.lt
  replace t4 := t4.below bn t4.lt
  replace bel := bel.trans (bn.mono bel.size)
  replace E1 := E1.below bn
  clear bn
  generalize (w2.alloc (.cells #[.bool p3, .slice A3 l3.length c3] 24)) = v1 at t3 t4 bel E1 t6 ⊢
  generalize w2.heap.size = g6 at t3 t4 bel E1 t6 hg6 ⊢
  have Y := h2.below bel
  have t3_0 := t3.c0
  have t3_1 := t3.c1
  go_wp2_with fail
  refine (HC2.out _ Y).mono ?_
  rintro e w3 ⟨p4, A4, c4, l4, rfl, E2, hb⟩
  clear t3_0 t3_1
  clear t3
  replace t4 := t4.below hb t4.lt
  replace bel := bel.trans (hb.mono bel.size)
  replace E1 := E1.below hb
  replace t6 := t6.below hb t6.lt
  clear hb
  clear Y
  obtain rfl : p4 = false := E2.can.1.trans HSG.out
  go_upto_region 3 with (fail)
  have hg7 : g6 < w3.heap.size := t6.lt
  have t7 : Two (w3.alloc (.cells #[.bool false, .slice A4 l4.length c4] 24)) w3.heap.size (.bool false) (.slice A4 l4.length c4) := Two.new_ w3 (.bool false) (.slice A4 l4.length c4) 24
  have bn : Below w3.heap.size w3 (w3.alloc (.cells #[.bool false, .slice A4 l4.length c4] 24)) := (Below.refl _ _).alloc (Nat.le_refl _) _
  replace t4 := t4.below bn t4.lt
  replace bel := bel.trans (bn.mono bel.size)
  replace E1 := E1.below bn
  replace t6 := t6.below bn t6.lt
  replace E2 := E2.below bn
  clear bn
  generalize (w3.alloc (.cells #[.bool false, .slice A4 l4.length c4] 24)) = v2 at t4 bel E1 t6 E2 t7 ⊢
  generalize w3.heap.size = g7 at t4 bel E1 t6 E2 t7 hg7 ⊢
  have t7_0 := t7.c0
  have t7_1 := t7.c1
  go_wp2_with fail
  refine (HZ1.out _ _ _ _ _ E2).mono ?_
  rintro e w4 ⟨rfl, hb⟩
  clear t7_0 t7_1
  replace t4 := t4.below hb t4.lt
  replace bel := bel.trans (hb.mono bel.size)
  replace E1 := E1.below hb
  replace t6 := t6.below hb t6.lt
  replace E2 := E2.below hb
  replace t7 := t7.below hb t7.lt
  clear hb
  have t6_0 := t6.c0
  have t6_1 := t6.c1
  go_wp2_with fail
  refine (HZ2.out _ _ _ _ _ E1).mono ?_
  rintro e w5 ⟨rfl, hb⟩
  clear t6_0 t6_1
  replace t4 := t4.below hb t4.lt
  replace bel := bel.trans (hb.mono bel.size)
  replace E1 := E1.below hb
  replace t6 := t6.below hb t6.lt
  replace E2 := E2.below hb
  replace t7 := t7.below hb t7.lt
  clear hb
  have t7_0 := t7.c0
  have t7_1 := t7.c1
  go_upto_region 10 with (fail)
  clear t7_0 t7_1
  rw [← HXX.out] at E1
  rw [← HYY.out] at E2
  have t6_0 := t6.c0
  have t6_1 := t6.c1
  have t7_0 := t7.c0
  have t7_1 := t7.c1
  go_wp2_with fail
  refine (HG.out _ _ _ _ _ _ _ _ _ E1 E2).mono ?_
  rintro e w6 ⟨p8, A8, c8, l8, rfl, E8, hb⟩
  clear t6_0 t6_1 t7_0 t7_1
  replace t4 := t4.below hb t4.lt
  replace bel := bel.trans (hb.mono bel.size)
  replace E1 := E1.below hb
  replace t6 := t6.below hb t6.lt
  replace E2 := E2.below hb
  replace t7 := t7.below hb t7.lt
  clear hb
  go_upto_region 11 with (fail)
  have hg8 : g7 < w6.heap.size := t7.lt
  have t8 : Two (w6.alloc (.cells #[.bool p8, .slice A8 l8.length c8] 24)) w6.heap.size (.bool p8) (.slice A8 l8.length c8) := Two.new_ w6 (.bool p8) (.slice A8 l8.length c8) 24
  have bn : Below w6.heap.size w6 (w6.alloc (.cells #[.bool p8, .slice A8 l8.length c8] 24)) := (Below.refl _ _).alloc (Nat.le_refl _) _
  replace t4 := t4.below bn t4.lt
  replace bel := bel.trans (bn.mono bel.size)
  replace E1 := E1.below bn
  replace t6 := t6.below bn t6.lt
  replace E2 := E2.below bn
  replace t7 := t7.below bn t7.lt
  replace E8 := E8.below bn
  clear bn
  generalize (w6.alloc (.cells #[.bool p8, .slice A8 l8.length c8] 24)) = v3 at t4 bel E1 t6 E2 t7 E8 t8 ⊢
  generalize w6.heap.size = g8 at t4 bel E1 t6 E2 t7 E8 t8 hg8 ⊢
  have t6_0 := t6.c0
  have t6_1 := t6.c1
  have t8_0 := t8.c0
  have t8_1 := t8.c1
  go_wp2_with fail
  refine (HD1.out _ _ _ _ _ _ _ _ _ E1 E8).mono ?_
  rintro e w7 ⟨p9, A9, c9, l9, pa, Aa, ca, la, rfl, E9, Ea, hb⟩
  clear t6_0 t6_1 t8_0 t8_1
  clear E1 t6
  replace t4 := t4.below hb t4.lt
  replace bel := bel.trans (hb.mono bel.size)
  replace E2 := E2.below hb
  replace t7 := t7.below hb t7.lt
  replace E8 := E8.below hb
  replace t8 := t8.below hb t8.lt
  clear hb
  clear Ea
  go_upto_region 12 with (fail)
  have hg9 : g8 < w7.heap.size := t8.lt
  have t9 : Two ((w7.alloc (.cells #[.bool p9, .slice A9 l9.length c9] 24)).alloc (.cells #[.bool pa, .slice Aa la.length ca] 24)) w7.heap.size (.bool p9) (.slice A9 l9.length c9) := (Two.new_ w7 (.bool p9) (.slice A9 l9.length c9) 24).alloc _
  have t10 : Two ((w7.alloc (.cells #[.bool p9, .slice A9 l9.length c9] 24)).alloc (.cells #[.bool pa, .slice Aa la.length ca] 24)) (w7.heap.size + 1) (.bool pa) (.slice Aa la.length ca) := by simpa only [World.size_alloc, Nat.add_assoc, Nat.reduceAdd] using Two.new_ (w7.alloc (.cells #[.bool p9, .slice A9 l9.length c9] 24)) (.bool pa) (.slice Aa la.length ca) 24
  have bn : Below w7.heap.size w7 ((w7.alloc (.cells #[.bool p9, .slice A9 l9.length c9] 24)).alloc (.cells #[.bool pa, .slice Aa la.length ca] 24)) := ((Below.refl _ _).alloc (Nat.le_refl _) _).alloc (by simp only [World.size_alloc]; omega) _
  replace t4 := t4.below bn t4.lt
  replace bel := bel.trans (bn.mono bel.size)
  replace E2 := E2.below bn
  replace t7 := t7.below bn t7.lt
  replace E8 := E8.below bn
  replace t8 := t8.below bn t8.lt
  replace E9 := E9.below bn
  clear bn
  generalize ((w7.alloc (.cells #[.bool p9, .slice A9 l9.length c9] 24)).alloc (.cells #[.bool pa, .slice Aa la.length ca] 24)) = v4 at t4 bel E2 t7 E8 t8 E9 t9 t10 ⊢
  generalize w7.heap.size = g9 at t4 bel E2 t7 E8 t8 E9 t9 t10 hg9 ⊢
  clear t10
  have t7_0 := t7.c0
  have t7_1 := t7.c1
  have t8_0 := t8.c0
  have t8_1 := t8.c1
  go_wp2_with fail
  refine (HD2.out _ _ _ _ _ _ _ _ _ E2 E8).mono ?_
  rintro e w8 ⟨pb, Ab, cb, lb, pc, Ac, cc, lc, rfl, Eb, Ec, hb⟩
  clear t7_0 t7_1 t8_0 t8_1
  clear E2 E8 t7 t8
  replace t4 := t4.below hb t4.lt
  replace bel := bel.trans (hb.mono bel.size)
  replace E9 := E9.below hb
  replace t9 := t9.below hb t9.lt
  clear hb
  clear Ec
  go_upto_region 13 with (fail)
  have hgb : g9 < w8.heap.size := t9.lt
  have tb : Two ((w8.alloc (.cells #[.bool pb, .slice Ab lb.length cb] 24)).alloc (.cells #[.bool pc, .slice Ac lc.length cc] 24)) w8.heap.size (.bool pb) (.slice Ab lb.length cb) := (Two.new_ w8 (.bool pb) (.slice Ab lb.length cb) 24).alloc _
  have tc : Two ((w8.alloc (.cells #[.bool pb, .slice Ab lb.length cb] 24)).alloc (.cells #[.bool pc, .slice Ac lc.length cc] 24)) (w8.heap.size + 1) (.bool pc) (.slice Ac lc.length cc) := by simpa only [World.size_alloc, Nat.add_assoc, Nat.reduceAdd] using Two.new_ (w8.alloc (.cells #[.bool pb, .slice Ab lb.length cb] 24)) (.bool pc) (.slice Ac lc.length cc) 24
  have bn : Below w8.heap.size w8 ((w8.alloc (.cells #[.bool pb, .slice Ab lb.length cb] 24)).alloc (.cells #[.bool pc, .slice Ac lc.length cc] 24)) := ((Below.refl _ _).alloc (Nat.le_refl _) _).alloc (by simp only [World.size_alloc]; omega) _
  replace t4 := t4.below bn t4.lt
  replace bel := bel.trans (bn.mono bel.size)
  replace E9 := E9.below bn
  replace t9 := t9.below bn t9.lt
  replace Eb := Eb.below bn
  clear bn
  generalize ((w8.alloc (.cells #[.bool pb, .slice Ab lb.length cb] 24)).alloc (.cells #[.bool pc, .slice Ac lc.length cc] 24)) = v5 at t4 bel E9 t9 Eb tb tc ⊢
  generalize w8.heap.size = gb at t4 bel E9 t9 Eb tb tc hgb ⊢
  clear tc
  obtain rfl : p9 = decide (z.num < 0) := E9.can.1
  obtain rfl : pb = false := Eb.can.1.trans (decide_eq_false (by have := rq_den_pos z; omega))
  have t9_0 := t9.c0
  have t9_1 := t9.c1
  have tb_0 := tb.c0
  have tb_1 := tb.c1
  have d0 := t4.c0
  have d1 := t4.c1
  have d2 := t4.c2
  have d3 := t4.c3
  have f0 := t4.fr 0
  have f1 := t4.fr 1
  have f2 := t4.fr 2
  have f3 := t4.fr 3
  have R := Lib.hid (t4.put (.bool (decide (z.num < 0))) (.slice A9 l9.length c9) (.bool false) (.slice Ab lb.length cb))
  have CR := Lib.hid ((⟨E9, Eb⟩ : Cr _ _ _ _ _ _ _ z _).put4 t4 (.bool (decide (z.num < 0))) (.slice A9 l9.length c9) (.bool false) (.slice Ab lb.length cb))
  have BL := Lib.hid (below_set4 bel (b := w.heap.size + 2) (by omega) (.bool (decide (z.num < 0))) (.slice A9 l9.length c9) (.bool false) (.slice Ab lb.length cb))
  clear t4 bel E9 t9 Eb tb
  go_wp2_with fail
  have r0 := R.out.c0
  have r1 := R.out.c1
  have r2 := R.out.c2
  have r3 := R.out.c3
  unfold set4 at r0 r1 r2 r3
  refine bodyPost_ret (v := .tuple #[.agg #[.bool (decide (z.num < 0)), .slice A9 l9.length c9, .bool false, .slice Ab lb.length cb], .int .i64 0]) (by simp [results, Tryz.results33, go_sem, r0, r1, r2, r3]) rfl ?_
  exact ⟨A9, c9, l9, Ab, cb, lb, rfl, CR.out, BL.out⟩
end Go.Proofs.YtkpomjdablopaaaGreatDoor
/- Walks of package rational: New of the reference, errors and zero. -/
namespace Go.Proofs.YtkpomjdablopaaaGreatDoor
open Go.RowKit
set_option linter.unusedVariables false

set_option maxRecDepth 100000 in
set_option maxHeartbeats 3000000 in
theorem grnew0 {x y : Int} {n : Nat} {p : Bool} {A : Option Addr} {c : Nat} {l : List Nat} {q : Bool} {B : Option Addr} {d : Nat} {m : List Nat} {w : World} (h1 : Iv w p A c l x n) (h2 : Iv w q B d m y n) (hy : y = 0) (hn : n ≤ 100) :
    Calls Tryz.prog 33 #[.agg #[.bool p, .slice A l.length c], .agg #[.bool q, .slice B m.length d]] w fun e w' => e = .returned (.tuple #[ratV false none 0 0 false none 0 0, .int .i64 3]) ∧ Below w.heap.size w w' := by
  unfold ratV
  have HC1 := Lib.hid (fun (W : World) (h : Iv W p A c l x n) => grclean h hn)
  have HC2 := Lib.hid (fun (W : World) (h : Iv W q B d m y n) => grclean h hn)
  have HZ1 := Lib.hid (fun (W : World) (p4 : Bool) (A4 : Option Addr) (c4 : Nat) (l4 : List Nat) (h : Cn W p4 A4 c4 l4 y n) => (by have h := grz h.iv hn; rwa [decide_eq_true hy] at h : Calls Tryz.prog 71 #[.agg #[.bool p4, .slice A4 l4.length c4]] W fun e w' => e = .returned (.bool true) ∧ Below W.heap.size W w'))
  have HN := Lib.hid hn
  clear hn hy
  go_enter Tryz.func33, Tryz.ntmps33
  go_wp2_with fail
  have t2 : Two (((w.alloc (.cells #[.bool p, .slice A l.length c] 24)).alloc (.cells #[.bool q, .slice B m.length d] 24)).alloc (.cells #[.bool false, .slice none 0 0, .bool false, .slice none 0 0] 26)) w.heap.size (.bool p) (.slice A l.length c) := ((Two.new_ w (.bool p) (.slice A l.length c) 24).alloc _).alloc _
  have t3 : Two (((w.alloc (.cells #[.bool p, .slice A l.length c] 24)).alloc (.cells #[.bool q, .slice B m.length d] 24)).alloc (.cells #[.bool false, .slice none 0 0, .bool false, .slice none 0 0] 26)) (w.heap.size + 1) (.bool q) (.slice B m.length d) := by simpa only [World.size_alloc, Nat.add_assoc, Nat.reduceAdd] using (Two.new_ (w.alloc (.cells #[.bool p, .slice A l.length c] 24)) (.bool q) (.slice B m.length d) 24).alloc _
  have t4 : Four (((w.alloc (.cells #[.bool p, .slice A l.length c] 24)).alloc (.cells #[.bool q, .slice B m.length d] 24)).alloc (.cells #[.bool false, .slice none 0 0, .bool false, .slice none 0 0] 26)) (w.heap.size + 2) (.bool false) (.slice none 0 0) (.bool false) (.slice none 0 0) := by simpa only [World.size_alloc, Nat.add_assoc, Nat.reduceAdd] using Four.new_ ((w.alloc (.cells #[.bool p, .slice A l.length c] 24)).alloc (.cells #[.bool q, .slice B m.length d] 24)) (.bool false) (.slice none 0 0) (.bool false) (.slice none 0 0) 26
  have bel : Below w.heap.size w (((w.alloc (.cells #[.bool p, .slice A l.length c] 24)).alloc (.cells #[.bool q, .slice B m.length d] 24)).alloc (.cells #[.bool false, .slice none 0 0, .bool false, .slice none 0 0] 26)) := (((Below.refl _ _).alloc (Nat.le_refl _) _).alloc (by simp only [World.size_alloc]; omega) _).alloc (by simp only [World.size_alloc]; omega) _
  generalize (((w.alloc (.cells #[.bool p, .slice A l.length c] 24)).alloc (.cells #[.bool q, .slice B m.length d] 24)).alloc (.cells #[.bool false, .slice none 0 0, .bool false, .slice none 0 0] 26)) = wx at t2 t3 t4 bel ⊢
  have X := h1.below bel
  have t2_0 := t2.c0
  have t2_1 := t2.c1
  go_wp2_with fail
  refine (HC1.out _ X).mono ?_
  rintro e w2 ⟨p3, A3, c3, l3, rfl, E1, hb⟩
  clear t2_0 t2_1
  clear t2
  replace t3 := t3.below hb t3.lt
  replace t4 := t4.below hb t4.lt
  replace bel := bel.trans (hb.mono bel.size)
  clear hb
  clear X
  go_upto_region 2 with (fail)
  have hg6 : w.heap.size + 2 < w2.heap.size := t4.lt
  have t6 : Two (w2.alloc (.cells #[.bool p3, .slice A3 l3.length c3] 24)) w2.heap.size (.bool p3) (.slice A3 l3.length c3) := Two.new_ w2 (.bool p3) (.slice A3 l3.length c3) 24
  have bn : Below w2.heap.size w2 (w2.alloc (.cells #[.bool p3, .slice A3 l3.length c3] 24)) := (Below.refl _ _).alloc (Nat.le_refl _) _
  replace t3 := t3.below bn t3.lt
  replace t4 := t4.below bn t4.lt
  replace bel := bel.trans (bn.mono bel.size)
  replace E1 := E1.below bn
  clear bn
  generalize (w2.alloc (.cells #[.bool p3, .slice A3 l3.length c3] 24)) = v1 at t3 t4 bel E1 t6 ⊢
  generalize w2.heap.size = g6 at t3 t4 bel E1 t6 hg6 ⊢
  have Y := h2.below bel
  have t3_0 := t3.c0
  have t3_1 := t3.c1
  go_wp2_with fail
  refine (HC2.out _ Y).mono ?_
  rintro e w3 ⟨p4, A4, c4, l4, rfl, E2, hb⟩
  clear t3_0 t3_1
  clear t3
  replace t4 := t4.below hb t4.lt
  replace bel := bel.trans (hb.mono bel.size)
  replace E1 := E1.below hb
  replace t6 := t6.below hb t6.lt
  clear hb
  clear Y
  go_upto_region 3 with (fail)
  have hg7 : g6 < w3.heap.size := t6.lt
  have t7 : Two (w3.alloc (.cells #[.bool p4, .slice A4 l4.length c4] 24)) w3.heap.size (.bool p4) (.slice A4 l4.length c4) := Two.new_ w3 (.bool p4) (.slice A4 l4.length c4) 24
  have bn : Below w3.heap.size w3 (w3.alloc (.cells #[.bool p4, .slice A4 l4.length c4] 24)) := (Below.refl _ _).alloc (Nat.le_refl _) _
  replace t4 := t4.below bn t4.lt
  replace bel := bel.trans (bn.mono bel.size)
  replace E1 := E1.below bn
  replace t6 := t6.below bn t6.lt
  replace E2 := E2.below bn
  clear bn
  generalize (w3.alloc (.cells #[.bool p4, .slice A4 l4.length c4] 24)) = v2 at t4 bel E1 t6 E2 t7 ⊢
  generalize w3.heap.size = g7 at t4 bel E1 t6 E2 t7 hg7 ⊢
  have t7_0 := t7.c0
  have t7_1 := t7.c1
  go_wp2_with fail
  refine (HZ1.out _ _ _ _ _ E2).mono ?_
  rintro e w4 ⟨rfl, hb⟩
  clear t7_0 t7_1
  replace t4 := t4.below hb t4.lt
  replace bel := bel.trans (hb.mono bel.size)
  replace E1 := E1.below hb
  replace t6 := t6.below hb t6.lt
  replace E2 := E2.below hb
  replace t7 := t7.below hb t7.lt
  clear hb
  have d0 := t4.c0
  have d1 := t4.c1
  have d2 := t4.c2
  have d3 := t4.c3
  have f0 := t4.fr 0
  have f1 := t4.fr 1
  have f2 := t4.fr 2
  have f3 := t4.fr 3
  have R := Lib.hid (t4.put (.bool false) (.slice none 0 0) (.bool false) (.slice none 0 0))
  have BL := Lib.hid (below_set4 bel (b := w.heap.size + 2) (by omega) (.bool false) (.slice none 0 0) (.bool false) (.slice none 0 0))
  clear t4 bel E1 t6 E2 t7
  go_wp2_with fail
  have r0 := R.out.c0
  have r1 := R.out.c1
  have r2 := R.out.c2
  have r3 := R.out.c3
  unfold set4 at r0 r1 r2 r3
  refine bodyPost_ret (v := .tuple #[.agg #[.bool false, .slice none 0 0, .bool false, .slice none 0 0], .int .i64 3]) (by simp [results, Tryz.results33, go_sem, r0, r1, r2, r3]) rfl ?_
  exact ⟨rfl, BL.out⟩

set_option maxRecDepth 100000 in
set_option maxHeartbeats 3000000 in
theorem rnew_zero {x y : Int} {z : Rat} {n : Nat} {p : Bool} {A : Option Addr} {c : Nat} {l : List Nat} {q : Bool} {B : Option Addr} {d : Nat} {m : List Nat} {w : World} (h1 : Iv w p A c l x n) (h2 : Iv w q B d m y n) (hn : n ≤ 100) (hn1 : 1 ≤ n) (hy : ¬ y = 0) (hx : x = 0) (hz : z = 0) :
    Calls Tryz.prog 33 #[.agg #[.bool p, .slice A l.length c], .agg #[.bool q, .slice B m.length d]] w (GRc z n w) := by
  have HC1 := Lib.hid (fun (W : World) (h : Iv W p A c l x n) => grclean h hn)
  have HC2 := Lib.hid (fun (W : World) (h : Iv W q B d m y n) => grclean h hn)
  have HZ1 := Lib.hid (fun (W : World) (p4 : Bool) (A4 : Option Addr) (c4 : Nat) (l4 : List Nat) (h : Cn W p4 A4 c4 l4 y n) => (by have h := grz h.iv hn; rwa [decide_eq_false hy] at h : Calls Tryz.prog 71 #[.agg #[.bool p4, .slice A4 l4.length c4]] W fun e w' => e = .returned (.bool false) ∧ Below W.heap.size W w'))
  have HZ2 := Lib.hid (fun (W : World) (p4 : Bool) (A4 : Option Addr) (c4 : Nat) (l4 : List Nat) (h : Cn W p4 A4 c4 l4 x n) => (by have h := grz h.iv hn; rwa [decide_eq_true hx] at h : Calls Tryz.prog 71 #[.agg #[.bool p4, .slice A4 l4.length c4]] W fun e w' => e = .returned (.bool true) ∧ Below W.heap.size W w'))
  have HZR : Hid (∀ W, Calls Tryz.prog 34 #[] W (GR z 1 W)) := Lib.hid (fun W => by rw [hz]; exact grzero W)
  have HN1 := Lib.hid hn1
  have HN := Lib.hid hn
  clear hn hy hx hz hn1
  go_enter Tryz.func33, Tryz.ntmps33
  go_wp2_with fail
  have t2 : Two (((w.alloc (.cells #[.bool p, .slice A l.length c] 24)).alloc (.cells #[.bool q, .slice B m.length d] 24)).alloc (.cells #[.bool false, .slice none 0 0, .bool false, .slice none 0 0] 26)) w.heap.size (.bool p) (.slice A l.length c) := ((Two.new_ w (.bool p) (.slice A l.length c) 24).alloc _).alloc _
  have t3 : Two (((w.alloc (.cells #[.bool p, .slice A l.length c] 24)).alloc (.cells #[.bool q, .slice B m.length d] 24)).alloc (.cells #[.bool false, .slice none 0 0, .bool false, .slice none 0 0] 26)) (w.heap.size + 1) (.bool q) (.slice B m.length d) := by simpa only [World.size_alloc, Nat.add_assoc, Nat.reduceAdd] using (Two.new_ (w.alloc (.cells #[.bool p, .slice A l.length c] 24)) (.bool q) (.slice B m.length d) 24).alloc _
  have t4 : Four (((w.alloc (.cells #[.bool p, .slice A l.length c] 24)).alloc (.cells #[.bool q, .slice B m.length d] 24)).alloc (.cells #[.bool false, .slice none 0 0, .bool false, .slice none 0 0] 26)) (w.heap.size + 2) (.bool false) (.slice none 0 0) (.bool false) (.slice none 0 0) := by simpa only [World.size_alloc, Nat.add_assoc, Nat.reduceAdd] using Four.new_ ((w.alloc (.cells #[.bool p, .slice A l.length c] 24)).alloc (.cells #[.bool q, .slice B m.length d] 24)) (.bool false) (.slice none 0 0) (.bool false) (.slice none 0 0) 26
  have bel : Below w.heap.size w (((w.alloc (.cells #[.bool p, .slice A l.length c] 24)).alloc (.cells #[.bool q, .slice B m.length d] 24)).alloc (.cells #[.bool false, .slice none 0 0, .bool false, .slice none 0 0] 26)) := (((Below.refl _ _).alloc (Nat.le_refl _) _).alloc (by simp only [World.size_alloc]; omega) _).alloc (by simp only [World.size_alloc]; omega) _
  generalize (((w.alloc (.cells #[.bool p, .slice A l.length c] 24)).alloc (.cells #[.bool q, .slice B m.length d] 24)).alloc (.cells #[.bool false, .slice none 0 0, .bool false, .slice none 0 0] 26)) = wx at t2 t3 t4 bel ⊢
  have X := h1.below bel
  have t2_0 := t2.c0
  have t2_1 := t2.c1
  go_wp2_with fail
  refine (HC1.out _ X).mono ?_
  rintro e w2 ⟨p3, A3, c3, l3, rfl, E1, hb⟩
  clear t2_0 t2_1
  clear t2
  replace t3 := t3.below hb t3.lt
  replace t4 := t4.below hb t4.lt
  replace bel := bel.trans (hb.mono bel.size)
  clear hb
  clear X
  go_upto_region 2 with (fail)
  have hg6 : w.heap.size + 2 < w2.heap.size := t4.lt
  have t6 : Two (w2.alloc (.cells #[.bool p3, .slice A3 l3.length c3] 24)) w2.heap.size (.bool p3) (.slice A3 l3.length c3) := Two.new_ w2 (.bool p3) (.slice A3 l3.length c3) 24
  have bn : Below w2.heap.size w2 (w2.alloc (.cells #[.bool p3, .slice A3 l3.length c3] 24)) := (Below.refl _ _).alloc (Nat.le_refl _) _
  replace t3 := t3.below bn t3.lt
  replace t4 := t4.below bn t4.lt
  replace bel := bel.trans (bn.mono bel.size)
  replace E1 := E1.below bn
  clear bn
  generalize (w2.alloc (.cells #[.bool p3, .slice A3 l3.length c3] 24)) = v1 at t3 t4 bel E1 t6 ⊢
  generalize w2.heap.size = g6 at t3 t4 bel E1 t6 hg6 ⊢
  have Y := h2.below bel
  have t3_0 := t3.c0
  have t3_1 := t3.c1
  go_wp2_with fail
  refine (HC2.out _ Y).mono ?_
  rintro e w3 ⟨p4, A4, c4, l4, rfl, E2, hb⟩
  clear t3_0 t3_1
  clear t3
  replace t4 := t4.below hb t4.lt
  replace bel := bel.trans (hb.mono bel.size)
  replace E1 := E1.below hb
  replace t6 := t6.below hb t6.lt
  clear hb
  clear Y
  go_upto_region 3 with (fail)
  have hg7 : g6 < w3.heap.size := t6.lt
  have t7 : Two (w3.alloc (.cells #[.bool p4, .slice A4 l4.length c4] 24)) w3.heap.size (.bool p4) (.slice A4 l4.length c4) := Two.new_ w3 (.bool p4) (.slice A4 l4.length c4) 24
  have bn : Below w3.heap.size w3 (w3.alloc (.cells #[.bool p4, .slice A4 l4.length c4] 24)) := (Below.refl _ _).alloc (Nat.le_refl _) _
  replace t4 := t4.below bn t4.lt
  replace bel := bel.trans (bn.mono bel.size)
  replace E1 := E1.below bn
  replace t6 := t6.below bn t6.lt
  replace E2 := E2.below bn
  clear bn
  generalize (w3.alloc (.cells #[.bool p4, .slice A4 l4.length c4] 24)) = v2 at t4 bel E1 t6 E2 t7 ⊢
  generalize w3.heap.size = g7 at t4 bel E1 t6 E2 t7 hg7 ⊢
  have t7_0 := t7.c0
  have t7_1 := t7.c1
  go_wp2_with fail
  refine (HZ1.out _ _ _ _ _ E2).mono ?_
  rintro e w4 ⟨rfl, hb⟩
  clear t7_0 t7_1
  replace t4 := t4.below hb t4.lt
  replace bel := bel.trans (hb.mono bel.size)
  replace E1 := E1.below hb
  replace t6 := t6.below hb t6.lt
  replace E2 := E2.below hb
  replace t7 := t7.below hb t7.lt
  clear hb
  have t6_0 := t6.c0
  have t6_1 := t6.c1
  go_wp2_with fail
  refine (HZ2.out _ _ _ _ _ E1).mono ?_
  rintro e w5 ⟨rfl, hb⟩
  clear t6_0 t6_1
  replace t4 := t4.below hb t4.lt
  replace bel := bel.trans (hb.mono bel.size)
  replace E1 := E1.below hb
  replace t6 := t6.below hb t6.lt
  replace E2 := E2.below hb
  replace t7 := t7.below hb t7.lt
  clear hb
  go_wp2_with fail
  refine (HZR.out _).mono ?_
  rintro e w6 ⟨A5, c5, l5, A6, c6, l6, rfl, CC, hb⟩
  replace t4 := t4.below hb t4.lt
  replace bel := bel.trans (hb.mono bel.size)
  replace E1 := E1.below hb
  replace t6 := t6.below hb t6.lt
  replace E2 := E2.below hb
  replace t7 := t7.below hb t7.lt
  clear hb
  have d0 := t4.c0
  have d1 := t4.c1
  have d2 := t4.c2
  have d3 := t4.c3
  have f0 := t4.fr 0
  have f1 := t4.fr 1
  have f2 := t4.fr 2
  have f3 := t4.fr 3
  have R := Lib.hid (t4.put (.bool (decide (z.num < 0))) (.slice A5 l5.length c5) (.bool false) (.slice A6 l6.length c6))
  have CR := Lib.hid (CC.put4 t4 (.bool (decide (z.num < 0))) (.slice A5 l5.length c5) (.bool false) (.slice A6 l6.length c6))
  have BL := Lib.hid (below_set4 bel (b := w.heap.size + 2) (by omega) (.bool (decide (z.num < 0))) (.slice A5 l5.length c5) (.bool false) (.slice A6 l6.length c6))
  clear t4 bel E1 t6 E2 t7 CC
  go_wp2_with fail
  have r0 := R.out.c0
  have r1 := R.out.c1
  have r2 := R.out.c2
  have r3 := R.out.c3
  unfold set4 at r0 r1 r2 r3
  refine bodyPost_ret (v := .tuple #[.agg #[.bool (decide (z.num < 0)), .slice A5 l5.length c5, .bool false, .slice A6 l6.length c6], .int .i64 0]) (by simp [results, Tryz.results33, go_sem, r0, r1, r2, r3]) rfl ?_
  exact ⟨A5, c5, l5, A6, c6, l6, rfl, CR.out.more_ HN1.out, BL.out⟩
end Go.Proofs.YtkpomjdablopaaaGreatDoor
/- Walks of package rational: New whole and Clean of the reference. -/
namespace Go.Proofs.YtkpomjdablopaaaGreatDoor
open Go.RowKit
set_option linter.unusedVariables false

theorem grnew {x y : Int} {n : Nat} {p : Bool} {A : Option Addr} {c : Nat} {l : List Nat} {q : Bool} {B : Option Addr} {d : Nat} {m : List Nat} {w : World} (h1 : Iv w p A c l x n) (h2 : Iv w q B d m y n) (hy : y ≠ 0) (hn : n ≤ 100) (hn1 : 1 ≤ n) :
    Calls Tryz.prog 33 #[.agg #[.bool p, .slice A l.length c], .agg #[.bool q, .slice B m.length d]] w (GRc (Rat.divInt x y) n w) := by
  by_cases hx : x = 0
  · exact rnew_zero h1 h2 hn hn1 hy hx (by rw [hx]; exact Rat.zero_divInt y)
  · rcases Int.lt_or_gt_of_ne hy with h | h
    · exact rnew_neg h1 h2 hn hn1 h hx rfl
    · exact rnew_pos h1 h2 hn hn1 h hx rfl
theorem grofi {a : Int} (h : -9223372036854775808 ≤ a ∧ a ≤ 9223372036854775807) (w : World) : Calls Tryz.prog 69 #[.int .i64 a] w (GI a 2 w) :=
  (rof_any a (Lib.hid h.1) (Lib.hid h.2) w).mono fun _ _ hr => GI.of hr (by
    have e : Kn.pw 2 = 18446744073709551616 := by decide
    rw [e]; omega)

set_option maxRecDepth 100000 in
set_option maxHeartbeats 3000000 in
theorem rcl_zero {x y : Int} {n : Nat} {p : Bool} {A : Option Addr} {c : Nat} {l : List Nat} {q : Bool} {B : Option Addr} {d : Nat} {m : List Nat} {w : World} (h1 : Iv w p A c l x n) (h2 : Iv w q B d m y n) {z : Rat} (hz : z = Rat.divInt x y) (hy : y = 0) (hn : n ≤ 100) (hn1 : 1 ≤ n) :
    Calls Tryz.prog 12 #[ratV p A l.length c q B m.length d] w (GR z n w) := by
  have HNW := Lib.hid (fun (W : World) (h1 : Iv W p A c l x n) (h2 : Iv W q B d m y n) => (grnew0 h1 h2 hy hn : Calls Tryz.prog 33 #[.agg #[.bool p, .slice A l.length c], .agg #[.bool q, .slice B m.length d]] W fun e w' => e = .returned (.tuple #[.agg #[.bool false, .slice none 0 0, .bool false, .slice none 0 0], .int .i64 3]) ∧ Below W.heap.size W w'))
  have HZR : Hid (∀ W, Calls Tryz.prog 34 #[] W (GR z 1 W)) := Lib.hid (fun W => by rw [hz, hy, Rat.divInt_zero]; exact grzero W)
  have HN1 := Lib.hid hn1
  clear hz hn hn1 hy
  unfold ratV
  go_enter Tryz.func12, Tryz.ntmps12
  go_wp2_with fail
  have t1 : Four ((w.alloc (.cells #[.bool p, .slice A l.length c, .bool q, .slice B m.length d] 26)).alloc (.cells #[.bool false, .slice none 0 0, .bool false, .slice none 0 0] 26)) w.heap.size (.bool p) (.slice A l.length c) (.bool q) (.slice B m.length d) := (Four.new_ w (.bool p) (.slice A l.length c) (.bool q) (.slice B m.length d) 26).alloc _
  have t2 : Four ((w.alloc (.cells #[.bool p, .slice A l.length c, .bool q, .slice B m.length d] 26)).alloc (.cells #[.bool false, .slice none 0 0, .bool false, .slice none 0 0] 26)) (w.heap.size + 1) (.bool false) (.slice none 0 0) (.bool false) (.slice none 0 0) := by simpa only [World.size_alloc, Nat.add_assoc, Nat.reduceAdd] using Four.new_ (w.alloc (.cells #[.bool p, .slice A l.length c, .bool q, .slice B m.length d] 26)) (.bool false) (.slice none 0 0) (.bool false) (.slice none 0 0) 26
  have bel : Below w.heap.size w ((w.alloc (.cells #[.bool p, .slice A l.length c, .bool q, .slice B m.length d] 26)).alloc (.cells #[.bool false, .slice none 0 0, .bool false, .slice none 0 0] 26)) := ((Below.refl _ _).alloc (Nat.le_refl _) _).alloc (by simp only [World.size_alloc]; omega) _
  generalize ((w.alloc (.cells #[.bool p, .slice A l.length c, .bool q, .slice B m.length d] 26)).alloc (.cells #[.bool false, .slice none 0 0, .bool false, .slice none 0 0] 26)) = wx at t1 t2 bel ⊢
  have X := h1.below bel
  have Y := h2.below bel
  have t1_0 := t1.c0
  have t1_1 := t1.c1
  have t1_2 := t1.c2
  have t1_3 := t1.c3
  go_wp2_with fail
  refine (HNW.out _ X Y).mono ?_
  rintro e w2 ⟨rfl, hb⟩
  clear t1_0 t1_1 t1_2 t1_3
  clear t1
  replace t2 := t2.below hb t2.lt
  replace bel := bel.trans (hb.mono bel.size)
  clear hb
  clear X Y
  go_upto_region 2 with (fail)
  have hg3 : w.heap.size + 1 < w2.heap.size := t2.lt
  have t3 : Four (w2.alloc (.cells #[.bool false, .slice none 0 0, .bool false, .slice none 0 0] 26)) w2.heap.size (.bool false) (.slice none 0 0) (.bool false) (.slice none 0 0) := Four.new_ w2 (.bool false) (.slice none 0 0) (.bool false) (.slice none 0 0) 26
  have bn : Below w2.heap.size w2 (w2.alloc (.cells #[.bool false, .slice none 0 0, .bool false, .slice none 0 0] 26)) := (Below.refl _ _).alloc (Nat.le_refl _) _
  replace t2 := t2.below bn t2.lt
  replace bel := bel.trans (bn.mono bel.size)
  clear bn
  generalize (w2.alloc (.cells #[.bool false, .slice none 0 0, .bool false, .slice none 0 0] 26)) = v1 at t2 bel t3 ⊢
  generalize w2.heap.size = g3 at t2 bel t3 hg3 ⊢
  clear t3
  go_wp2_with fail
  refine (HZR.out _).mono ?_
  rintro e w3 ⟨A5, c5, l5, A6, c6, l6, rfl, CC, hb⟩
  replace t2 := t2.below hb t2.lt
  replace bel := bel.trans (hb.mono bel.size)
  clear hb
  have d0 := t2.c0
  have d1 := t2.c1
  have d2 := t2.c2
  have d3 := t2.c3
  have f0 := t2.fr 0
  have f1 := t2.fr 1
  have f2 := t2.fr 2
  have f3 := t2.fr 3
  have R := Lib.hid (t2.put (.bool (decide (z.num < 0))) (.slice A5 l5.length c5) (.bool false) (.slice A6 l6.length c6))
  have CR := Lib.hid (CC.put4 t2 (.bool (decide (z.num < 0))) (.slice A5 l5.length c5) (.bool false) (.slice A6 l6.length c6))
  have BL := Lib.hid (below_set4 bel (b := w.heap.size + 1) (by omega) (.bool (decide (z.num < 0))) (.slice A5 l5.length c5) (.bool false) (.slice A6 l6.length c6))
  clear t2 bel CC
  go_wp2_with fail
  have r0 := R.out.c0
  have r1 := R.out.c1
  have r2 := R.out.c2
  have r3 := R.out.c3
  unfold set4 at r0 r1 r2 r3
  refine bodyPost_ret (v := .agg #[.bool (decide (z.num < 0)), .slice A5 l5.length c5, .bool false, .slice A6 l6.length c6]) (by simp [results, Tryz.results12, go_sem, r0, r1, r2, r3]) rfl ?_
  exact ⟨A5, c5, l5, A6, c6, l6, rfl, CR.out.more_ HN1.out, BL.out⟩

set_option maxRecDepth 100000 in
set_option maxHeartbeats 3000000 in
theorem rcl_any {x y : Int} {n : Nat} {p : Bool} {A : Option Addr} {c : Nat} {l : List Nat} {q : Bool} {B : Option Addr} {d : Nat} {m : List Nat} {w : World} (h1 : Iv w p A c l x n) (h2 : Iv w q B d m y n) {z : Rat} (hz : z = Rat.divInt x y) (hy : y ≠ 0) (hn : n ≤ 100) (hn1 : 1 ≤ n) :
    Calls Tryz.prog 12 #[ratV p A l.length c q B m.length d] w (GR z n w) := by
  have HNW := Lib.hid (fun (W : World) (h1 : Iv W p A c l x n) (h2 : Iv W q B d m y n) => (by have h := grnew h1 h2 hy hn hn1; rw [← hz] at h; exact h : Calls Tryz.prog 33 #[.agg #[.bool p, .slice A l.length c], .agg #[.bool q, .slice B m.length d]] W (GRc z n W)))
  clear hz hn hn1 hy
  unfold ratV
  go_enter Tryz.func12, Tryz.ntmps12
  go_wp2_with fail
  have t1 : Four ((w.alloc (.cells #[.bool p, .slice A l.length c, .bool q, .slice B m.length d] 26)).alloc (.cells #[.bool false, .slice none 0 0, .bool false, .slice none 0 0] 26)) w.heap.size (.bool p) (.slice A l.length c) (.bool q) (.slice B m.length d) := (Four.new_ w (.bool p) (.slice A l.length c) (.bool q) (.slice B m.length d) 26).alloc _
  have t2 : Four ((w.alloc (.cells #[.bool p, .slice A l.length c, .bool q, .slice B m.length d] 26)).alloc (.cells #[.bool false, .slice none 0 0, .bool false, .slice none 0 0] 26)) (w.heap.size + 1) (.bool false) (.slice none 0 0) (.bool false) (.slice none 0 0) := by simpa only [World.size_alloc, Nat.add_assoc, Nat.reduceAdd] using Four.new_ (w.alloc (.cells #[.bool p, .slice A l.length c, .bool q, .slice B m.length d] 26)) (.bool false) (.slice none 0 0) (.bool false) (.slice none 0 0) 26
  have bel : Below w.heap.size w ((w.alloc (.cells #[.bool p, .slice A l.length c, .bool q, .slice B m.length d] 26)).alloc (.cells #[.bool false, .slice none 0 0, .bool false, .slice none 0 0] 26)) := ((Below.refl _ _).alloc (Nat.le_refl _) _).alloc (by simp only [World.size_alloc]; omega) _
  generalize ((w.alloc (.cells #[.bool p, .slice A l.length c, .bool q, .slice B m.length d] 26)).alloc (.cells #[.bool false, .slice none 0 0, .bool false, .slice none 0 0] 26)) = wx at t1 t2 bel ⊢
  have X := h1.below bel
  have Y := h2.below bel
  have t1_0 := t1.c0
  have t1_1 := t1.c1
  have t1_2 := t1.c2
  have t1_3 := t1.c3
  go_wp2_with fail
  refine (HNW.out _ X Y).mono ?_
  rintro e w2 ⟨A5, c5, l5, A6, c6, l6, rfl, CC, hb⟩
  clear t1_0 t1_1 t1_2 t1_3
  clear t1
  replace t2 := t2.below hb t2.lt
  replace bel := bel.trans (hb.mono bel.size)
  clear hb
  clear X Y
  go_upto_region 2 with (fail)
  have hg3 : w.heap.size + 1 < w2.heap.size := t2.lt
  have t3 : Four (w2.alloc (.cells #[.bool (decide (z.num < 0)), .slice A5 l5.length c5, .bool false, .slice A6 l6.length c6] 26)) w2.heap.size (.bool (decide (z.num < 0))) (.slice A5 l5.length c5) (.bool false) (.slice A6 l6.length c6) := Four.new_ w2 (.bool (decide (z.num < 0))) (.slice A5 l5.length c5) (.bool false) (.slice A6 l6.length c6) 26
  have bn : Below w2.heap.size w2 (w2.alloc (.cells #[.bool (decide (z.num < 0)), .slice A5 l5.length c5, .bool false, .slice A6 l6.length c6] 26)) := (Below.refl _ _).alloc (Nat.le_refl _) _
  replace t2 := t2.below bn t2.lt
  replace bel := bel.trans (bn.mono bel.size)
  replace CC := CC.below bn
  clear bn
  generalize (w2.alloc (.cells #[.bool (decide (z.num < 0)), .slice A5 l5.length c5, .bool false, .slice A6 l6.length c6] 26)) = v1 at t2 bel CC t3 ⊢
  generalize w2.heap.size = g3 at t2 bel CC t3 hg3 ⊢
  have t3_0 := t3.c0
  have t3_1 := t3.c1
  have t3_2 := t3.c2
  have t3_3 := t3.c3
  have d0 := t2.c0
  have d1 := t2.c1
  have d2 := t2.c2
  have d3 := t2.c3
  have f0 := t2.fr 0
  have f1 := t2.fr 1
  have f2 := t2.fr 2
  have f3 := t2.fr 3
  have R := Lib.hid (t2.put (.bool (decide (z.num < 0))) (.slice A5 l5.length c5) (.bool false) (.slice A6 l6.length c6))
  have CR := Lib.hid (CC.put4 t2 (.bool (decide (z.num < 0))) (.slice A5 l5.length c5) (.bool false) (.slice A6 l6.length c6))
  have BL := Lib.hid (below_set4 bel (b := w.heap.size + 1) (by omega) (.bool (decide (z.num < 0))) (.slice A5 l5.length c5) (.bool false) (.slice A6 l6.length c6))
  clear t2 bel CC t3
  go_wp2_with fail
  have r0 := R.out.c0
  have r1 := R.out.c1
  have r2 := R.out.c2
  have r3 := R.out.c3
  unfold set4 at r0 r1 r2 r3
  refine bodyPost_ret (v := .agg #[.bool (decide (z.num < 0)), .slice A5 l5.length c5, .bool false, .slice A6 l6.length c6]) (by simp [results, Tryz.results12, go_sem, r0, r1, r2, r3]) rfl ?_
  exact ⟨A5, c5, l5, A6, c6, l6, rfl, CR.out, BL.out⟩
theorem grrcl {x y : Int} {n : Nat} {p : Bool} {A : Option Addr} {c : Nat} {l : List Nat} {q : Bool} {B : Option Addr} {d : Nat} {m : List Nat} {w : World} (h1 : Iv w p A c l x n) (h2 : Iv w q B d m y n) (hn : n ≤ 100) (hn1 : 1 ≤ n) :
    Calls Tryz.prog 12 #[ratV p A l.length c q B m.length d] w (GR (Rat.divInt x y) n w) := by
  by_cases hy : y = 0
  · exact rcl_zero h1 h2 rfl hy hn hn1
  · exact rcl_any h1 h2 rfl hy hn hn1
end Go.Proofs.YtkpomjdablopaaaGreatDoor
/- Walks of package rational: Of of both. -/
namespace Go.Proofs.YtkpomjdablopaaaGreatDoor
open Go.RowKit
set_option linter.unusedVariables false

set_option maxRecDepth 100000 in
set_option maxHeartbeats 3000000 in
theorem grofr {a b : Int} (ha : -9223372036854775808 ≤ a ∧ a ≤ 9223372036854775807) (hb : -9223372036854775808 ≤ b ∧ b ≤ 9223372036854775807) (h0 : b ≠ 0) (w : World) :
    Calls Tryz.prog 81 #[.int .i64 a, .int .i64 b] w (GRc (Rat.divInt a b) 2 w) := by
  have HA := Lib.hid (fun W => rsmall_of (fun W => grofi ha W) W)
  have HB := Lib.hid (fun W => rsmall_of (fun W => grofi hb W) W)
  obtain ⟨z, hz⟩ : ∃ z, z = Rat.divInt a b := ⟨_, rfl⟩
  rw [← hz]
  have HNW := Lib.hid (fun (W : World) (p : Bool) (A : Option Addr) (c : Nat) (l : List Nat) (q : Bool) (B : Option Addr) (d : Nat) (m : List Nat) (h1 : Cn W p A c l a 2) (h2 : Cn W q B d m b 2) => (by have h := grnew h1.iv h2.iv h0 (by decide) (by decide); rw [← hz] at h; exact h : Calls Tryz.prog 33 #[.agg #[.bool p, .slice A l.length c], .agg #[.bool q, .slice B m.length d]] W (GRc z 2 W)))
  clear ha hb h0 hz
  go_enter Tryz.func81, Tryz.ntmps81
  go_wp2_with fail
  have t3 : Four (w.alloc (.cells #[.bool false, .slice none 0 0, .bool false, .slice none 0 0] 26)) w.heap.size (.bool false) (.slice none 0 0) (.bool false) (.slice none 0 0) := Four.new_ w (.bool false) (.slice none 0 0) (.bool false) (.slice none 0 0) 26
  have bel : Below w.heap.size w (w.alloc (.cells #[.bool false, .slice none 0 0, .bool false, .slice none 0 0] 26)) := (Below.refl _ _).alloc (Nat.le_refl _) _
  generalize (w.alloc (.cells #[.bool false, .slice none 0 0, .bool false, .slice none 0 0] 26)) = wx at t3 bel ⊢
  refine (HA.out _).mono ?_
  rintro e w2 ⟨p1, A1, c1, l1, rfl, C1, hb⟩
  replace t3 := t3.below hb t3.lt
  replace bel := bel.trans (hb.mono bel.size)
  clear hb
  go_wp2_with fail
  refine (HB.out _).mono ?_
  rintro e w3 ⟨q1, B1, d1, m1, rfl, C2, hb⟩
  replace t3 := t3.below hb t3.lt
  replace bel := bel.trans (hb.mono bel.size)
  replace C1 := C1.below hb
  clear hb
  go_wp2_with fail
  refine (HNW.out _ _ _ _ _ _ _ _ _ C1 C2).mono ?_
  rintro e w4 ⟨A5, c5, l5, A6, c6, l6, rfl, CC, hb⟩
  clear C1 C2
  replace t3 := t3.below hb t3.lt
  replace bel := bel.trans (hb.mono bel.size)
  clear hb
  have d0 := t3.c0
  have d1 := t3.c1
  have d2 := t3.c2
  have d3 := t3.c3
  have f0 := t3.fr 0
  have f1 := t3.fr 1
  have f2 := t3.fr 2
  have f3 := t3.fr 3
  have R := Lib.hid (t3.put (.bool (decide (z.num < 0))) (.slice A5 l5.length c5) (.bool false) (.slice A6 l6.length c6))
  have CR := Lib.hid (CC.put4 t3 (.bool (decide (z.num < 0))) (.slice A5 l5.length c5) (.bool false) (.slice A6 l6.length c6))
  have BL := Lib.hid (below_set4 bel (b := w.heap.size) (by omega) (.bool (decide (z.num < 0))) (.slice A5 l5.length c5) (.bool false) (.slice A6 l6.length c6))
  clear t3 bel CC
  go_wp2_with fail
  have r0 := R.out.c0
  have r1 := R.out.c1
  have r2 := R.out.c2
  have r3 := R.out.c3
  unfold set4 at r0 r1 r2 r3
  refine bodyPost_ret (v := .tuple #[.agg #[.bool (decide (z.num < 0)), .slice A5 l5.length c5, .bool false, .slice A6 l6.length c6], .int .i64 0]) (by simp [results, Tryz.results81, go_sem, r0, r1, r2, r3]) rfl ?_
  exact ⟨A5, c5, l5, A6, c6, l6, rfl, CR.out, BL.out⟩

set_option maxRecDepth 100000 in
set_option maxHeartbeats 3000000 in
theorem grofr0 {a b : Int} (ha : -9223372036854775808 ≤ a ∧ a ≤ 9223372036854775807) (hb : -9223372036854775808 ≤ b ∧ b ≤ 9223372036854775807) (h0 : b = 0) (w : World) :
    Calls Tryz.prog 81 #[.int .i64 a, .int .i64 b] w fun e w' => e = .returned (.tuple #[ratV false none 0 0 false none 0 0, .int .i64 3]) ∧ Below w.heap.size w w' := by
  unfold ratV
  have HA := Lib.hid (fun W => rsmall_of (fun W => grofi ha W) W)
  have HB := Lib.hid (fun W => rsmall_of (fun W => grofi hb W) W)
  have HNW := Lib.hid (fun (W : World) (p : Bool) (A : Option Addr) (c : Nat) (l : List Nat) (q : Bool) (B : Option Addr) (d : Nat) (m : List Nat) (h1 : Cn W p A c l a 2) (h2 : Cn W q B d m b 2) => (grnew0 h1.iv h2.iv h0 (by decide) : Calls Tryz.prog 33 #[.agg #[.bool p, .slice A l.length c], .agg #[.bool q, .slice B m.length d]] W fun e w' => e = .returned (.tuple #[.agg #[.bool false, .slice none 0 0, .bool false, .slice none 0 0], .int .i64 3]) ∧ Below W.heap.size W w'))
  clear ha hb h0
  go_enter Tryz.func81, Tryz.ntmps81
  go_wp2_with fail
  have t3 : Four (w.alloc (.cells #[.bool false, .slice none 0 0, .bool false, .slice none 0 0] 26)) w.heap.size (.bool false) (.slice none 0 0) (.bool false) (.slice none 0 0) := Four.new_ w (.bool false) (.slice none 0 0) (.bool false) (.slice none 0 0) 26
  have bel : Below w.heap.size w (w.alloc (.cells #[.bool false, .slice none 0 0, .bool false, .slice none 0 0] 26)) := (Below.refl _ _).alloc (Nat.le_refl _) _
  generalize (w.alloc (.cells #[.bool false, .slice none 0 0, .bool false, .slice none 0 0] 26)) = wx at t3 bel ⊢
  refine (HA.out _).mono ?_
  rintro e w2 ⟨p1, A1, c1, l1, rfl, C1, hb⟩
  replace t3 := t3.below hb t3.lt
  replace bel := bel.trans (hb.mono bel.size)
  clear hb
  go_wp2_with fail
  refine (HB.out _).mono ?_
  rintro e w3 ⟨q1, B1, d1, m1, rfl, C2, hb⟩
  replace t3 := t3.below hb t3.lt
  replace bel := bel.trans (hb.mono bel.size)
  replace C1 := C1.below hb
  clear hb
  go_wp2_with fail
  refine (HNW.out _ _ _ _ _ _ _ _ _ C1 C2).mono ?_
  rintro e w4 ⟨rfl, hb⟩
  clear C1 C2
  replace t3 := t3.below hb t3.lt
  replace bel := bel.trans (hb.mono bel.size)
  clear hb
  have d0 := t3.c0
  have d1 := t3.c1
  have d2 := t3.c2
  have d3 := t3.c3
  have f0 := t3.fr 0
  have f1 := t3.fr 1
  have f2 := t3.fr 2
  have f3 := t3.fr 3
  have R := Lib.hid (t3.put (.bool false) (.slice none 0 0) (.bool false) (.slice none 0 0))
  have BL := Lib.hid (below_set4 bel (b := w.heap.size) (by omega) (.bool false) (.slice none 0 0) (.bool false) (.slice none 0 0))
  clear t3 bel
  go_wp2_with fail
  have r0 := R.out.c0
  have r1 := R.out.c1
  have r2 := R.out.c2
  have r3 := R.out.c3
  unfold set4 at r0 r1 r2 r3
  refine bodyPost_ret (v := .tuple #[.agg #[.bool false, .slice none 0 0, .bool false, .slice none 0 0], .int .i64 3]) (by simp [results, Tryz.results81, go_sem, r0, r1, r2, r3]) rfl ?_
  exact ⟨rfl, BL.out⟩

set_option maxRecDepth 100000 in
set_option maxHeartbeats 3000000 in
theorem gofr0 {a b : Int} (ha : -9223372036854775808 ≤ a ∧ a ≤ 9223372036854775807) (hb : -9223372036854775808 ≤ b ∧ b ≤ 9223372036854775807) (h0 : b = 0) (w : World) :
    Calls Tryz.prog 18 #[.int .i64 a, .int .i64 b] w fun e w' => e = .returned (.tuple #[ratV false none 0 0 false none 0 0, .int .i64 3]) ∧ Below w.heap.size w w' := by
  unfold ratV
  have HA := Lib.hid (fun W => gofi ha W)
  have HB := Lib.hid (fun W => gofi hb W)
  have HNW := Lib.hid (fun (W : World) (p : Bool) (A : Option Addr) (c : Nat) (l : List Nat) (q : Bool) (B : Option Addr) (d : Nat) (m : List Nat) (h1 : Cn W p A c l a 2) (h2 : Cn W q B d m b 2) => (by have h2 := h2.iv; rw [h0] at h2; exact gnew0 h2 (by decide) : Calls Tryz.prog 29 #[.agg #[.bool p, .slice A l.length c], .agg #[.bool q, .slice B m.length d]] W fun e w' => e = .returned (.tuple #[.agg #[.bool false, .slice none 0 0, .bool false, .slice none 0 0], .int .i64 3]) ∧ Below W.heap.size W w'))
  clear ha hb h0
  go_enter Tryz.func18, Tryz.ntmps18
  go_wp2_with fail
  have t3 : Four (w.alloc (.cells #[.bool false, .slice none 0 0, .bool false, .slice none 0 0] 26)) w.heap.size (.bool false) (.slice none 0 0) (.bool false) (.slice none 0 0) := Four.new_ w (.bool false) (.slice none 0 0) (.bool false) (.slice none 0 0) 26
  have bel : Below w.heap.size w (w.alloc (.cells #[.bool false, .slice none 0 0, .bool false, .slice none 0 0] 26)) := (Below.refl _ _).alloc (Nat.le_refl _) _
  generalize (w.alloc (.cells #[.bool false, .slice none 0 0, .bool false, .slice none 0 0] 26)) = wx at t3 bel ⊢
  refine (HA.out _).mono ?_
  rintro e w2 ⟨p1, A1, c1, l1, rfl, C1, hb⟩
  replace t3 := t3.below hb t3.lt
  replace bel := bel.trans (hb.mono bel.size)
  clear hb
  go_wp2_with fail
  refine (HB.out _).mono ?_
  rintro e w3 ⟨q1, B1, d1, m1, rfl, C2, hb⟩
  replace t3 := t3.below hb t3.lt
  replace bel := bel.trans (hb.mono bel.size)
  replace C1 := C1.below hb
  clear hb
  go_wp2_with fail
  refine (HNW.out _ _ _ _ _ _ _ _ _ C1 C2).mono ?_
  rintro e w4 ⟨rfl, hb⟩
  clear C1 C2
  replace t3 := t3.below hb t3.lt
  replace bel := bel.trans (hb.mono bel.size)
  clear hb
  have d0 := t3.c0
  have d1 := t3.c1
  have d2 := t3.c2
  have d3 := t3.c3
  have f0 := t3.fr 0
  have f1 := t3.fr 1
  have f2 := t3.fr 2
  have f3 := t3.fr 3
  have R := Lib.hid (t3.put (.bool false) (.slice none 0 0) (.bool false) (.slice none 0 0))
  have BL := Lib.hid (below_set4 bel (b := w.heap.size) (by omega) (.bool false) (.slice none 0 0) (.bool false) (.slice none 0 0))
  clear t3 bel
  go_wp2_with fail
  have r0 := R.out.c0
  have r1 := R.out.c1
  have r2 := R.out.c2
  have r3 := R.out.c3
  unfold set4 at r0 r1 r2 r3
  refine bodyPost_ret (v := .tuple #[.agg #[.bool false, .slice none 0 0, .bool false, .slice none 0 0], .int .i64 3]) (by simp [results, Tryz.results18, go_sem, r0, r1, r2, r3]) rfl ?_
  exact ⟨rfl, BL.out⟩
end Go.Proofs.YtkpomjdablopaaaGreatDoor
/- Walks of package rational: Valid. -/
namespace Go.Proofs.YtkpomjdablopaaaGreatDoor
open Go.RowKit
set_option linter.unusedVariables false

theorem vld_iff {p : Bool} {l : List Nat} (hw : Kn.Wd l) : vld p l = true ↔ (p = decide (Kn.iv p l < 0) ∧ l = Kn.dig (Kn.iv p l).natAbs) := by
  rw [Kn.iv_natAbs]
  unfold vld
  by_cases h0 : l.length = 0
  · have e : l = [] := List.eq_nil_of_length_eq_zero h0
    subst e
    rw [if_pos h0]
    have e1 : Kn.val ([] : List Nat) = 0 := rfl
    have e2 : decide (Kn.iv p [] < 0) = false := by cases p <;> rfl
    rw [e1, Kn.dig_zero, e2]
    cases p <;> simp
  · rw [if_neg h0]
    constructor
    · intro h
      have hl : l.getD (l.length - 1) 0 ≠ 0 := by simpa using h
      have hd := Kn.canon hw (.inr hl)
      have hp : 0 < Kn.val l := by
        have := Kn.dig_len_pos (n := Kn.val l)
        rw [← hd] at this
        omega
      refine ⟨?_, hd⟩
      cases p
      · have : ¬ Kn.iv false l < 0 := by show ¬ (Kn.val l : Int) < 0; omega
        rw [decide_eq_false this]
      · have : Kn.iv true l < 0 := by show -(Kn.val l : Int) < 0; omega
        rw [decide_eq_true this]
    · rintro ⟨_, hd⟩
      have hp : 0 < Kn.val l := by
        have := Kn.dig_len_pos (n := Kn.val l)
        rw [← hd] at this
        omega
      have := Kn.dig_last hp
      rw [← hd] at this
      simpa using this
/-- is a fraction written in its canonical form? -/
def canR (p : Bool) (l : List Nat) (q : Bool) (m : List Nat) (z : Rat) : Prop := (p = decide (z.num < 0) ∧ l = Kn.dig z.num.natAbs) ∧ (q = false ∧ m = Kn.dig (z.den : Int).natAbs)
instance (p : Bool) (l : List Nat) (q : Bool) (m : List Nat) (z : Rat) : Decidable (canR p l q m z) := by unfold canR; infer_instance
theorem canR_iff {p q : Bool} {l m : List Nat} (hl : Kn.Wd l) (hm : Kn.Wd m) : canR p l q m (Rat.divInt (Kn.iv p l) (Kn.iv q m)) ↔ (vld p l = true ∧ vld q m = true ∧ 0 < Kn.iv q m ∧ Nat.gcd (Kn.iv p l).natAbs (Kn.iv q m).natAbs = 1) := by
  constructor
  · rintro ⟨⟨e1, e2⟩, e3, e4⟩
    obtain ⟨z, hz⟩ : ∃ z, z = Rat.divInt (Kn.iv p l) (Kn.iv q m) := ⟨_, rfl⟩
    rw [← hz] at e1 e2 e4
    have x1 : Kn.iv p l = z.num := by rw [e1, e2, Kn.iv_dig]
    have y1 : Kn.iv q m = (z.den : Int) := by
      have := Kn.iv_dig (z.den : Int)
      rw [decide_eq_false (show ¬ (z.den : Int) < 0 by omega)] at this
      rw [e3, e4]; exact this
    have hd := rq_den_pos z
    refine ⟨(vld_iff hl).2 ?_, (vld_iff hm).2 ?_, by rw [y1]; exact hd, ?_⟩
    · rw [x1]; exact ⟨e1, e2⟩
    · rw [y1, decide_eq_false (show ¬ (z.den : Int) < 0 by omega)]; exact ⟨e3, e4⟩
    · rw [x1, y1, Int.natAbs_natCast]; exact z.reduced
  · rintro ⟨h1, h2, h3, h4⟩
    have a1 := (vld_iff hl).1 h1
    have a2 := (vld_iff hm).1 h2
    have hp := rq_parts (n := Kn.iv p l) h3
    rw [h4] at hp
    have e1 : (Rat.divInt (Kn.iv p l) (Kn.iv q m)).num = Kn.iv p l := by rw [hp.1]; exact Int.fdiv_one _
    have e2 : ((Rat.divInt (Kn.iv p l) (Kn.iv q m)).den : Int) = Kn.iv q m := by rw [hp.2]; exact Int.fdiv_one _
    refine ⟨by rw [e1]; exact a1, ?_⟩
    rw [e2]
    refine ⟨?_, a2.2⟩
    rw [a2.1, decide_eq_false (by omega)]

end Go.Proofs.YtkpomjdablopaaaGreatDoor
/- Walks of package rational: RationalClean, the law. -/
namespace Go.Proofs.YtkpomjdablopaaaGreatDoor
open Go.RowKit
set_option linter.unusedVariables false

/-- a row of words, in the world at hand -/
structure Slx (W : World) (A : Option Addr) (c : Nat) (l : List Nat) : Prop where
  s : Sl W W.heap.size A c l
theorem Slx.below {W W' : World} {A : Option Addr} {c : Nat} {l : List Nat} (h : Slx W A c l) (hb : Below W.heap.size W W') : Slx W' A c l := ⟨h.s.at_ hb (Nat.le_refl _)⟩
theorem Slx.drew {W : World} {A : Option Addr} {c : Nat} {l : List Nat} (h : Slx W A c l) : Slx W.drew A c l := ⟨h.s.drew⟩
theorem rrcln {W : World} {p q : Bool} {A B : Option Addr} {c d : Nat} {l m : List Nat} {z : Rat} {n : Nat} (h : Rv W p A c l q B d m z n) (hn : n ≤ 100) (hn1 : 1 ≤ n) : Calls Tryz.prog 12 #[ratV p A l.length c q B m.length d] W (GR z n W) := by
  obtain ⟨x, y, hx, hy, hz⟩ := h
  rw [← hz]; exact grrcl hx hy hn hn1

end Go.Proofs.YtkpomjdablopaaaGreatDoor
/- Walks of package rational: Neg of the reference. -/
namespace Go.Proofs.YtkpomjdablopaaaGreatDoor
open Go.RowKit
set_option linter.unusedVariables false

theorem cell_allocc {W : World} {b j : Nat} {x : Value} {o : Obj} (h : W.cell? ⟨b, j, none⟩ = some x) : (W.alloc o).cell? ⟨b, j, none⟩ = some x := (World.cell?_alloc_lt W o _ (World.block_lt_of_cell? W _ h)).trans h
theorem cell_drewc {W : World} {b j : Nat} {x : Value} (h : W.cell? ⟨b, j, none⟩ = some x) : W.drew.cell? ⟨b, j, none⟩ = some x := h
theorem far1c (W : World) (g i : Nat) (u : Value) {b j : Nat} {x : Value} (h : W.cell? ⟨b, j, none⟩ = some x) (hne : b ≠ g) : (W.setCell ⟨g, i, none⟩ u).cell? ⟨b, j, none⟩ = some x := (World.cell?_of_block (w := W) (Below.heap_setCell W ⟨g, i, none⟩ u b hne)).trans h
theorem far2c {W : World} {g b j : Nat} {u v x : Value} (h : W.cell? ⟨b, j, none⟩ = some x) (hne : b ≠ g) : ((W.setCell ⟨g, 0, none⟩ u).setCell ⟨g, 1, none⟩ v).cell? ⟨b, j, none⟩ = some x := far1c _ _ _ _ (far1c _ _ _ _ h hne) hne
theorem far4c {W : World} {g b j : Nat} {u v u' v' x : Value} (h : W.cell? ⟨b, j, none⟩ = some x) (hne : b ≠ g) : ((((W.setCell ⟨g, 0, none⟩ u).setCell ⟨g, 1, none⟩ v).setCell ⟨g, 2, none⟩ u').setCell ⟨g, 3, none⟩ v').cell? ⟨b, j, none⟩ = some x := far1c _ _ _ _ (far1c _ _ _ _ (far2c h hne) hne) hne
theorem bq_r (w : World) : Below w.heap.size w w := Below.refl _ _
theorem bq_d (w : World) : Below w.heap.size w w.drew := bDrew1 (Below.refl _ _)
theorem bq_da (w : World) (o : Obj) : Below w.heap.size w (w.alloc o).drew := bDrew1 (al1 _ _)
theorem bq {w w1 w2 : World} (h : Below w.heap.size w w1) (hb : Below w1.heap.size w1 w2) : Below w.heap.size w w2 := h.trans (hb.mono h.size)
/-- a fraction in a new box -/
def Bx (hi : Nat) (z : Rat) (n : Nat) (s : Value) (W : World) : Prop := ∃ g A c l B d m, s = .pointer (some ⟨g, 0, none⟩) ∧ hi < g ∧ Four W g (.bool (decide (z.num < 0))) (.slice A l.length c) (.bool false) (.slice B m.length d) ∧ Cr W A c l B d m z n

set_option maxRecDepth 100000 in
set_option maxHeartbeats 1500000 in
theorem rrneg {w : World} {p1 : Bool} {A1 : Option Addr} {c1 : Nat} {l1 : List Nat} {q1 : Bool} {B1 : Option Addr} {d1 : Nat} {m1 : List Nat} {z1 : Rat} {n : Nat} (h1 : Rv w p1 A1 c1 l1 q1 B1 d1 m1 z1 n) (hn : n ≤ 100) (hn1 : 1 ≤ n) :
    Calls Tryz.prog 118 #[ratV p1 A1 l1.length c1 q1 B1 m1.length d1] w (GR (-z1) n w) := by
  obtain ⟨z, hz⟩ : ∃ z, z = -z1 := ⟨_, rfl⟩
  rw [← hz]
  have HNW := Lib.hid (fun (W : World) (p : Bool) (A : Option Addr) (c : Nat) (l : List Nat) (q : Bool) (B : Option Addr) (d : Nat) (m : List Nat) (h : Cn W p A c l (-z1.num) n) (h' : Cn W q B d m (z1.den : Int) n) => (by have h := grnew h.iv h'.iv (by have := rq_den_pos z1; omega) hn hn1; rw [← Rat.neg_divInt, rq_self, ← hz] at h; exact h : Calls Tryz.prog 33 #[.agg #[.bool p, .slice A l.length c], .agg #[.bool q, .slice B m.length d]] W (GRc z n W)))
  have HCL := Lib.hid (fun (W : World) (h : Rv W p1 A1 c1 l1 q1 B1 d1 m1 z1 n) => rrcln h hn hn1)
  have HNG := Lib.hid (fun (W : World) (p : Bool) (A : Option Addr) (c : Nat) (l : List Nat) (h : Cn W p A c l z1.num n) => grneg h.iv hn)
  clear hn hn1 hz
  unfold ratV
  go_enter Tryz.func118, Tryz.ntmps118
  go_wp2_with fail
  have t1 : Four ((w.alloc (.cells #[.bool p1, .slice A1 l1.length c1, .bool q1, .slice B1 m1.length d1] 26)).alloc (.cells #[.bool false, .slice none 0 0, .bool false, .slice none 0 0] 26)) w.heap.size (.bool p1) (.slice A1 l1.length c1) (.bool q1) (.slice B1 m1.length d1) := (Four.new_ w (.bool p1) (.slice A1 l1.length c1) (.bool q1) (.slice B1 m1.length d1) 26).alloc _
  have t2 : Four ((w.alloc (.cells #[.bool p1, .slice A1 l1.length c1, .bool q1, .slice B1 m1.length d1] 26)).alloc (.cells #[.bool false, .slice none 0 0, .bool false, .slice none 0 0] 26)) (w.heap.size + 1) (.bool false) (.slice none 0 0) (.bool false) (.slice none 0 0) := by simpa only [World.size_alloc, Nat.add_assoc, Nat.reduceAdd] using Four.new_ (w.alloc (.cells #[.bool p1, .slice A1 l1.length c1, .bool q1, .slice B1 m1.length d1] 26)) (.bool false) (.slice none 0 0) (.bool false) (.slice none 0 0) 26
  have bel : Below w.heap.size w ((w.alloc (.cells #[.bool p1, .slice A1 l1.length c1, .bool q1, .slice B1 m1.length d1] 26)).alloc (.cells #[.bool false, .slice none 0 0, .bool false, .slice none 0 0] 26)) := ((Below.refl _ _).alloc (Nat.le_refl _) _).alloc (by simp only [World.size_alloc]; omega) _
  generalize ((w.alloc (.cells #[.bool p1, .slice A1 l1.length c1, .bool q1, .slice B1 m1.length d1] 26)).alloc (.cells #[.bool false, .slice none 0 0, .bool false, .slice none 0 0] 26)) = wx at t1 t2 bel ⊢
  have X := h1.below bel
  have t1_0 := t1.c0
  have t1_1 := t1.c1
  have t1_2 := t1.c2
  have t1_3 := t1.c3
  go_wp2_with fail
  refine (HCL.out _ X).mono ?_
  rintro e w2 ⟨A4, c4, l4, B4, d4, m4, rfl, C, hb⟩
  clear t1_0 t1_1 t1_2 t1_3
  clear t1
  replace t2 := t2.below hb t2.lt
  replace bel := bel.trans (hb.mono bel.size)
  clear hb
  clear X
  go_upto_region 2 with (fail)
  have hg3 : w.heap.size + 1 < w2.heap.size := t2.lt
  have t3 : Four (w2.alloc (.cells #[.bool (decide (z1.num < 0)), .slice A4 l4.length c4, .bool false, .slice B4 m4.length d4] 26)) w2.heap.size (.bool (decide (z1.num < 0))) (.slice A4 l4.length c4) (.bool false) (.slice B4 m4.length d4) := Four.new_ w2 (.bool (decide (z1.num < 0))) (.slice A4 l4.length c4) (.bool false) (.slice B4 m4.length d4) 26
  have bn : Below w2.heap.size w2 (w2.alloc (.cells #[.bool (decide (z1.num < 0)), .slice A4 l4.length c4, .bool false, .slice B4 m4.length d4] 26)) := (Below.refl _ _).alloc (Nat.le_refl _) _
  replace t2 := t2.below bn t2.lt
  replace bel := bel.trans (bn.mono bel.size)
  replace C := C.below bn
  clear bn
  generalize (w2.alloc (.cells #[.bool (decide (z1.num < 0)), .slice A4 l4.length c4, .bool false, .slice B4 m4.length d4] 26)) = v1 at t2 bel C t3 ⊢
  generalize w2.heap.size = g3 at t2 bel C t3 hg3 ⊢
  go_cut [4] (fun s wx => Bx (w.heap.size + 1) z n s wx ∧ Four wx (w.heap.size + 1) (.bool false) (.slice none 0 0) (.bool false) (.slice none 0 0) ∧ Below w.heap.size w wx)
  case first =>
    have zz := t3.lt
    go_region_held3 (fun w' => w'.cell? ⟨g3, 0, none⟩ = some (.bool (decide (z1.num < 0))) ∧ w'.cell? ⟨g3, 1, none⟩ = some (.slice A4 l4.length c4) ∧ w'.cell? ⟨g3, 2, none⟩ = some (.bool false) ∧ w'.cell? ⟨g3, 3, none⟩ = some (.slice B4 m4.length d4))
      ((repeat' (first | (with_reducible refine And.intro ?_ ?_) | (with_reducible refine far4c ?_ ?_) | (with_reducible refine far2c ?_ ?_) | (with_reducible refine cell_allocc ?_) | (with_reducible refine cell_drewc ?_))) <;> (first | (with_reducible exact t3.c0) | (with_reducible exact t3.c1) | (with_reducible exact t3.c2) | (with_reducible exact t3.c3) | omega | (simp; omega)))
      (first
        | (go_at_call 37; (first | ((with_reducible refine (HNG.out _ _ _ _ _ (C.below (bq_d _)).a).mono ?_); rintro e wa ⟨p5, A5, c5, l5, rfl, E5, hb⟩; have hq := bq (bq_d _) hb; replace t2 := t2.below hq t2.lt; replace t3 := t3.below hq t3.lt; replace C := C.below hq; replace bel := bel.trans (hq.mono bel.size); have zzt30 := t3.lt; clear hb hq) | ((with_reducible refine (HNG.out _ _ _ _ _ (C.below (bq_da _ _)).a).mono ?_); rintro e wa ⟨p5, A5, c5, l5, rfl, E5, hb⟩; have tN := ((Four.new_ _ (.bool false) (.slice none 0 0) (.bool false) (.slice none 0 0) 26).drew).below hb ((Four.new_ _ (.bool false) (.slice none 0 0) (.bool false) (.slice none 0 0) 26).drew).lt; have hq := bq (bq_da _ _) hb; replace t2 := t2.below hq t2.lt; replace t3 := t3.below hq t3.lt; replace C := C.below hq; replace bel := bel.trans (hq.mono bel.size); have zzt30 := t3.lt; clear hb hq)))
        | (go_at_call 33; (first | ((with_reducible refine (HNW.out _ _ _ _ _ _ _ _ _ (E5.below (bq_r _)) (C.below (bq_r _)).b).mono ?_); rintro e wa ⟨A6, c6, l6, B6, d6, m6, rfl, CC, hb⟩; have hq := bq (bq_r _) hb; replace t2 := t2.below hq t2.lt; replace t3 := t3.below hq t3.lt; replace C := C.below hq; replace bel := bel.trans (hq.mono bel.size); replace E5 := E5.below hq; (try replace tN := tN.below hb tN.lt); have zzt31 := t3.lt; (try have n0 := tN.c0); (try have n1 := tN.c1); (try have m0 := tN.fr 0); (try have m1 := tN.fr 1); (try have n2 := tN.c2); (try have n3 := tN.c3); (try have m2 := tN.fr 2); (try have m3 := tN.fr 3); (try have hg := tN.lt); clear hb hq) | ((with_reducible refine (HNW.out _ _ _ _ _ _ _ _ _ (E5.below (al1 _ _)) (C.below (al1 _ _)).b).mono ?_); rintro e wa ⟨A6, c6, l6, B6, d6, m6, rfl, CC, hb⟩; have tN := ((Four.new_ _ (.bool false) (.slice none 0 0) (.bool false) (.slice none 0 0) 26)).below hb ((Four.new_ _ (.bool false) (.slice none 0 0) (.bool false) (.slice none 0 0) 26)).lt; have hq := bq (al1 _ _) hb; replace t2 := t2.below hq t2.lt; replace t3 := t3.below hq t3.lt; replace C := C.below hq; replace bel := bel.trans (hq.mono bel.size); replace E5 := E5.below hq; have zzt31 := t3.lt; (try have n0 := tN.c0); (try have n1 := tN.c1); (try have m0 := tN.fr 0); (try have m1 := tN.fr 1); (try have n2 := tN.c2); (try have n3 := tN.c3); (try have m2 := tN.fr 2); (try have m3 := tN.fr 3); (try have hg := tN.lt); clear hb hq))))
    all_goals
      go_wp2_with fail
      go_meet
      first
        | exact ⟨⟨_, _, _, _, _, _, _, rfl, by omega, Four.new_ _ _ _ _ _ _, CC.alloc _⟩, t2.alloc _, bel.alloc bel.size _⟩
        | exact ⟨⟨_, _, _, _, _, _, _, rfl, by omega, tN.put _ _ _ _, CC.put4 tN _ _ _ _⟩, t2.far4 (by omega) _ _ _ _, below_set4 bel (by omega) _ _ _ _⟩
  case rest =>
    obtain ⟨⟨g9, A9, c9, l9, B9, d9, m9, rfl, hg9, t9, C9⟩, t2, bel⟩ := hcut
    have e0 := t9.c0
    have e1 := t9.c1
    have e2 := t9.c2
    have e3 := t9.c3
    have d0 := t2.c0
    have d1 := t2.c1
    have d2 := t2.c2
    have d3 := t2.c3
    have f0 := t2.fr 0
    have f1 := t2.fr 1
    have f2 := t2.fr 2
    have f3 := t2.fr 3
    have R := Lib.hid (t2.put (.bool (decide (z.num < 0))) (.slice A9 l9.length c9) (.bool false) (.slice B9 m9.length d9))
    have CR := Lib.hid (C9.put4 t2 (.bool (decide (z.num < 0))) (.slice A9 l9.length c9) (.bool false) (.slice B9 m9.length d9))
    have BL := Lib.hid (below_set4 bel (b := w.heap.size + 1) (by omega) (.bool (decide (z.num < 0))) (.slice A9 l9.length c9) (.bool false) (.slice B9 m9.length d9))
    clear t9 t2 C9 bel
    go_wp2_with fail
    have r0 := R.out.c0
    have r1 := R.out.c1
    have r2 := R.out.c2
    have r3 := R.out.c3
    unfold set4 at r0 r1 r2 r3
    refine bodyPost_ret (v := .agg #[.bool (decide (z.num < 0)), .slice A9 l9.length c9, .bool false, .slice B9 m9.length d9]) (by simp [results, Tryz.results118, go_sem, r0, r1, r2, r3]) rfl ?_
    exact ⟨A9, c9, l9, B9, d9, m9, rfl, CR.out, BL.out⟩
end Go.Proofs.YtkpomjdablopaaaGreatDoor
