/- My texts, packed: R6, R7, R9, J0, Rn, Ro, Rs. -/
import Derived.Test.YtkpomjdablopaaaGreatDoorZ12
import Derived.Test.YtkpomjdablopaaaGreatDoorZ14
import Derived.Lib.IndexMore
import Derived.Test.YtkpomjdablopaaaGreatDoorZ11
/- Walks of package rational: Parse, the denominator zero. -/
namespace Go.Proofs.YtkpomjdablopaaaGreatDoor
open Go.RowKit
set_option linter.unusedVariables false

set_option maxRecDepth 100000 in
set_option maxHeartbeats 800000 in
theorem parse_okdp0 {s : ByteArray} (hs : s.size ≤ 100) {a b D B2 : List UInt8} (hcut : Lib.cut (bs s) [47] = (a, b, true)) (hD : Kt.body a = D) (hN : Kt.negB a = false) (hB : (if true = true then b else [49]) = B2) (hV1 : Kt.isNum D = true) (hV2 : Kt.isNum B2 = true) (hy : Kt.valN B2 = 0) (hsD : D.length ≤ 100) (hsB : B2.length ≤ 100) (w : World) (mx : Mx w) :
    Calls Tryz.prog 9 #[.string s] w (fun e w' => e = .returned (.tuple #[ratV false none 0 0 false none 0 0, .int .i64 3]) ∧ Below w.heap.size w w') := by
  unfold ratV
  have z0 : ¬ (8192 : Int) < (s.size : Int) := by omega
  obtain rfl : b = B2 := by rw [← hB]; rfl
  obtain ⟨z, hz⟩ : ∃ z : Rat, z = 0 := ⟨_, rfl⟩
  clear hz
  have g1 := (Kt.isNum_canon hV1).2.1
  have g2 := (Kt.isNum_canon hV2).2.1
  have HCUT := Lib.hid (fun (W : World) (hm : ∃ m, W.cell? ⟨2, 0, none⟩ = some (.int .i64 m)) => (by obtain ⟨m, hm⟩ := hm; refine (Tryz.strings_Cut s ⟨#[47]⟩ m W (by omega) hm).mono ?_; rintro e w' ⟨rfl, n, rfl⟩; exact ⟨by rw [show (⟨#[47]⟩ : ByteArray).data.toList = [47] from rfl, show s.data.toList = bs s from rfl, hcut]; rfl, bDrew (Below.refl _ _) n⟩ : Calls Tryz.prog 24 #[.string s, .string ⟨#[47]⟩] W fun e w' => e = .returned (.tuple #[.string (mkB a), .string (mkB b), .bool true]) ∧ Below W.heap.size W w'))
  have HCP := Lib.hid (fun (W : World) => (by have h := Tryz.strings_CutPrefix (mkB a) ⟨#[45]⟩ W; have e1 := (Kt.cut_body a).1; have e2 := (Kt.cut_body a).2; rw [show (⟨#[45]⟩ : ByteArray).data.toList = [45] from rfl, show (mkB a).data.toList = bs (mkB a) from rfl, bs_mk, e1, e2, hD, hN] at h; exact h.mono fun e w' he => ⟨he.1, by rw [he.2]; exact Below.refl _ _⟩ : Calls Tryz.prog 25 #[.string (mkB a), .string ⟨#[45]⟩] W fun e w' => e = .returned (.tuple #[.string (mkB D), .bool false]) ∧ Below W.heap.size W w'))
  have HI1 := Lib.hid (fun (W : World) => (by have h := isNumberR_any (mkB D) (by rw [mk_size]; omega) W; rw [bs_mk, hV1] at h; exact h : Calls Tryz.prog 26 #[.string (mkB D)] W fun e w' => e = .returned (.bool true) ∧ Below W.heap.size W w'))
  have HI2 := Lib.hid (fun (W : World) => (by have h := isNumberR_any (mkB b) (by rw [mk_size]; omega) W; rw [bs_mk, hV2] at h; exact h : Calls Tryz.prog 26 #[.string (mkB b)] W fun e w' => e = .returned (.bool true) ∧ Below W.heap.size W w'))
  obtain ⟨X, hX⟩ : ∃ X : Int, X = ((Kt.valN D : Nat) : Int) := ⟨_, rfl⟩
  obtain ⟨Y, hY⟩ : ∃ Y : Int, Y = ((Kt.valN b : Nat) : Int) := ⟨_, rfl⟩
  have HN1 := Lib.hid (fun (W : World) => (by have h := number_any (mkB D) (by rw [mk_size]; omega) (by rw [bs_mk]; exact g1) W; rw [bs_mk, mk_size, ← hX] at h; exact h.mono fun _ _ hr => hr.more_ hsD : Calls Tryz.prog 27 #[.string (mkB D)] W (GI X 100 W)))
  have HN2 := Lib.hid (fun (W : World) => (by have h := number_any (mkB b) (by rw [mk_size]; omega) (by rw [bs_mk]; exact g2) W; rw [bs_mk, mk_size, ← hY] at h; exact h.mono fun _ _ hr => hr.more_ hsB : Calls Tryz.prog 27 #[.string (mkB b)] W (GI Y 100 W)))
  have HNW := Lib.hid (fun (W : World) (p4 : Bool) (A4 : Option Addr) (c4 : Nat) (l4 : List Nat) (p5 : Bool) (A5 : Option Addr) (c5 : Nat) (l5 : List Nat) (h : Cn W p4 A4 c4 l4 X 100) (h' : Cn W p5 A5 c5 l5 Y 100) => (by have h2 := h'.iv; rw [show Y = 0 by omega] at h2; exact gnew0 h2 (by decide) : Calls Tryz.prog 29 #[.agg #[.bool p4, .slice A4 l4.length c4], .agg #[.bool p5, .slice A5 l5.length c5]] W fun e w' => e = .returned (.tuple #[.agg #[.bool false, .slice none 0 0, .bool false, .slice none 0 0], .int .i64 3]) ∧ Below W.heap.size W w'))
  clear hs hcut hD hB hsD hsB hV1 hN hV2 g1 g2 hX hY hy
  go_enter Tryz.func9, Tryz.ntmps9
  go_wp2_with fail
  have t2 : Four (w.alloc (.cells #[.bool false, .slice none 0 0, .bool false, .slice none 0 0] 26)) w.heap.size (.bool false) (.slice none 0 0) (.bool false) (.slice none 0 0) := Four.new_ w (.bool false) (.slice none 0 0) (.bool false) (.slice none 0 0) 26
  have bel : Below w.heap.size w (w.alloc (.cells #[.bool false, .slice none 0 0, .bool false, .slice none 0 0] 26)) := (Below.refl _ _).alloc (Nat.le_refl _) _
  generalize (w.alloc (.cells #[.bool false, .slice none 0 0, .bool false, .slice none 0 0] 26)) = wx at t2 bel ⊢
  have M := mx.below_ bel
  refine (HCUT.out _ M).mono ?_
  rintro e w2 ⟨rfl, hb⟩
  replace t2 := t2.below hb t2.lt
  replace bel := bel.trans (hb.mono bel.size)
  clear hb
  clear M
  go_wp2_with fail
  refine (HCP.out _).mono ?_
  rintro e w3 ⟨rfl, hb⟩
  replace t2 := t2.below hb t2.lt
  replace bel := bel.trans (hb.mono bel.size)
  clear hb
  go_wp2_with fail
  refine (HI1.out _).mono ?_
  rintro e w4 ⟨rfl, hb⟩
  replace t2 := t2.below hb t2.lt
  replace bel := bel.trans (hb.mono bel.size)
  clear hb
  go_wp2_with fail
  refine (HI2.out _).mono ?_
  rintro e w5 ⟨rfl, hb⟩
  replace t2 := t2.below hb t2.lt
  replace bel := bel.trans (hb.mono bel.size)
  clear hb
  go_wp2_with fail
  refine (HN1.out _).mono ?_
  rintro e w6 ⟨p4, A4, c4, l4, rfl, E4, hb⟩
  replace t2 := t2.below hb t2.lt
  replace bel := bel.trans (hb.mono bel.size)
  clear hb
  go_upto_region 10 with (fail)
  have hg8 : w.heap.size < w6.heap.size := t2.lt
  have t8 : Two (w6.alloc (.cells #[.bool p4, .slice A4 l4.length c4] 24)) w6.heap.size (.bool p4) (.slice A4 l4.length c4) := Two.new_ w6 (.bool p4) (.slice A4 l4.length c4) 24
  have bn : Below w6.heap.size w6 (w6.alloc (.cells #[.bool p4, .slice A4 l4.length c4] 24)) := (Below.refl _ _).alloc (Nat.le_refl _) _
  replace t2 := t2.below bn t2.lt
  replace bel := bel.trans (bn.mono bel.size)
  replace E4 := E4.below bn
  clear bn
  generalize (w6.alloc (.cells #[.bool p4, .slice A4 l4.length c4] 24)) = v1 at t2 bel E4 t8 ⊢
  generalize w6.heap.size = g8 at t2 bel E4 t8 hg8 ⊢
  go_upto_region 12 with (fail)
  replace t2 := t2.drew
  replace bel := bDrew1 bel
  replace E4 := E4.drew
  replace t8 := t8.drew
  go_region_held3 (fun w' => w'.cell? ⟨g8, 0, none⟩ = some (.bool p4) ∧ w'.cell? ⟨g8, 1, none⟩ = some (.slice A4 l4.length c4))
    (first | with_reducible exact ⟨t8.c0, t8.c1⟩ | exact ⟨K0.out.c0, K0.out.c1⟩)
    (first
      | (go_at_call 27; (with_reducible refine (HN2.out _).mono ?_); rintro e wa ⟨p7, A7, c7, l7, rfl, E7, hb⟩; replace t2 := t2.below hb t2.lt; replace bel := bel.trans (hb.mono bel.size); replace E4 := E4.below hb; replace t8 := t8.below hb t8.lt; clear hb)
      | (go_at_call 29; (with_reducible refine (HNW.out _ _ _ _ _ _ _ _ _ E4 E7).mono ?_); rintro e wa ⟨rfl, hb⟩; replace t2 := t2.below hb t2.lt; replace bel := bel.trans (hb.mono bel.size); replace t8 := t8.below hb t8.lt; clear hb
         have d0 := t2.c0
         have f0 := t2.fr 0
         have d1 := t2.c1
         have f1 := t2.fr 1
         have d2 := t2.c2
         have f2 := t2.fr 2
         have d3 := t2.c3
         have f3 := t2.fr 3
         have K0 := Lib.hid (t8.far4 (g := w.heap.size) (by omega) (.bool false) (.slice none 0 0) (.bool false) (.slice none 0 0))
         have R := Lib.hid (t2.put (.bool false) (.slice none 0 0) (.bool false) (.slice none 0 0))
         have BL := Lib.hid (below_set4 bel (b := w.heap.size) (by omega) (.bool false) (.slice none 0 0) (.bool false) (.slice none 0 0))))
  go_wp2_with fail
  have r0 := R.out.c0
  have r1 := R.out.c1
  have r2 := R.out.c2
  have r3 := R.out.c3
  unfold set4 at r0 r1 r2 r3
  refine bodyPost_ret (v := .tuple #[.agg #[.bool false, .slice none 0 0, .bool false, .slice none 0 0], .int .i64 3]) (by simp [results, Tryz.results9, go_sem, r0, r1, r2, r3]) rfl ?_
  exact ⟨rfl, BL.out⟩

set_option maxRecDepth 100000 in
set_option maxHeartbeats 800000 in
theorem parse_okdm0 {s : ByteArray} (hs : s.size ≤ 100) {a b D B2 : List UInt8} (hcut : Lib.cut (bs s) [47] = (a, b, true)) (hD : Kt.body a = D) (hN : Kt.negB a = true) (hB : (if true = true then b else [49]) = B2) (hV1 : Kt.isNum D = true) (hV2 : Kt.isNum B2 = true) (hZ : (D == [48]) = false) (hy : Kt.valN B2 = 0) (hsD : D.length ≤ 100) (hsB : B2.length ≤ 100) (w : World) (mx : Mx w) :
    Calls Tryz.prog 9 #[.string s] w (fun e w' => e = .returned (.tuple #[ratV false none 0 0 false none 0 0, .int .i64 3]) ∧ Below w.heap.size w w') := by
  unfold ratV
  have z0 : ¬ (8192 : Int) < (s.size : Int) := by omega
  obtain rfl : b = B2 := by rw [← hB]; rfl
  obtain ⟨z, hz⟩ : ∃ z : Rat, z = 0 := ⟨_, rfl⟩
  clear hz
  have g1 := (Kt.isNum_canon hV1).2.1
  have g2 := (Kt.isNum_canon hV2).2.1
  have HCUT := Lib.hid (fun (W : World) (hm : ∃ m, W.cell? ⟨2, 0, none⟩ = some (.int .i64 m)) => (by obtain ⟨m, hm⟩ := hm; refine (Tryz.strings_Cut s ⟨#[47]⟩ m W (by omega) hm).mono ?_; rintro e w' ⟨rfl, n, rfl⟩; exact ⟨by rw [show (⟨#[47]⟩ : ByteArray).data.toList = [47] from rfl, show s.data.toList = bs s from rfl, hcut]; rfl, bDrew (Below.refl _ _) n⟩ : Calls Tryz.prog 24 #[.string s, .string ⟨#[47]⟩] W fun e w' => e = .returned (.tuple #[.string (mkB a), .string (mkB b), .bool true]) ∧ Below W.heap.size W w'))
  have HCP := Lib.hid (fun (W : World) => (by have h := Tryz.strings_CutPrefix (mkB a) ⟨#[45]⟩ W; have e1 := (Kt.cut_body a).1; have e2 := (Kt.cut_body a).2; rw [show (⟨#[45]⟩ : ByteArray).data.toList = [45] from rfl, show (mkB a).data.toList = bs (mkB a) from rfl, bs_mk, e1, e2, hD, hN] at h; exact h.mono fun e w' he => ⟨he.1, by rw [he.2]; exact Below.refl _ _⟩ : Calls Tryz.prog 25 #[.string (mkB a), .string ⟨#[45]⟩] W fun e w' => e = .returned (.tuple #[.string (mkB D), .bool true]) ∧ Below W.heap.size W w'))
  have HI1 := Lib.hid (fun (W : World) => (by have h := isNumberR_any (mkB D) (by rw [mk_size]; omega) W; rw [bs_mk, hV1] at h; exact h : Calls Tryz.prog 26 #[.string (mkB D)] W fun e w' => e = .returned (.bool true) ∧ Below W.heap.size W w'))
  have HI2 := Lib.hid (fun (W : World) => (by have h := isNumberR_any (mkB b) (by rw [mk_size]; omega) W; rw [bs_mk, hV2] at h; exact h : Calls Tryz.prog 26 #[.string (mkB b)] W fun e w' => e = .returned (.bool true) ∧ Below W.heap.size W w'))
  have q1 : ((mkB D).toList == [48]) = false := by rw [bs_toList, bs_mk]; exact hZ
  obtain ⟨X, hX⟩ : ∃ X : Int, X = ((Kt.valN D : Nat) : Int) := ⟨_, rfl⟩
  obtain ⟨Y, hY⟩ : ∃ Y : Int, Y = ((Kt.valN b : Nat) : Int) := ⟨_, rfl⟩
  have HN1 := Lib.hid (fun (W : World) => (by have h := number_any (mkB D) (by rw [mk_size]; omega) (by rw [bs_mk]; exact g1) W; rw [bs_mk, mk_size, ← hX] at h; exact h.mono fun _ _ hr => hr.more_ hsD : Calls Tryz.prog 27 #[.string (mkB D)] W (GI X 100 W)))
  have HN2 := Lib.hid (fun (W : World) => (by have h := number_any (mkB b) (by rw [mk_size]; omega) (by rw [bs_mk]; exact g2) W; rw [bs_mk, mk_size, ← hY] at h; exact h.mono fun _ _ hr => hr.more_ hsB : Calls Tryz.prog 27 #[.string (mkB b)] W (GI Y 100 W)))
  have HNG := Lib.hid (fun (W : World) (p4 : Bool) (A4 : Option Addr) (c4 : Nat) (l4 : List Nat) (h : Cn W p4 A4 c4 l4 X 100) => gneg h.iv (by decide))
  have HNW := Lib.hid (fun (W : World) (p4 : Bool) (A4 : Option Addr) (c4 : Nat) (l4 : List Nat) (p5 : Bool) (A5 : Option Addr) (c5 : Nat) (l5 : List Nat) (h : Cn W p4 A4 c4 l4 (-X) 100) (h' : Cn W p5 A5 c5 l5 Y 100) => (by have h2 := h'.iv; rw [show Y = 0 by omega] at h2; exact gnew0 h2 (by decide) : Calls Tryz.prog 29 #[.agg #[.bool p4, .slice A4 l4.length c4], .agg #[.bool p5, .slice A5 l5.length c5]] W fun e w' => e = .returned (.tuple #[.agg #[.bool false, .slice none 0 0, .bool false, .slice none 0 0], .int .i64 3]) ∧ Below W.heap.size W w'))
  clear hs hcut hD hB hsD hsB hV1 hN hV2 g1 g2 hX hY hy hZ
  go_enter Tryz.func9, Tryz.ntmps9
  go_wp2_with fail
  have t2 : Four (w.alloc (.cells #[.bool false, .slice none 0 0, .bool false, .slice none 0 0] 26)) w.heap.size (.bool false) (.slice none 0 0) (.bool false) (.slice none 0 0) := Four.new_ w (.bool false) (.slice none 0 0) (.bool false) (.slice none 0 0) 26
  have bel : Below w.heap.size w (w.alloc (.cells #[.bool false, .slice none 0 0, .bool false, .slice none 0 0] 26)) := (Below.refl _ _).alloc (Nat.le_refl _) _
  generalize (w.alloc (.cells #[.bool false, .slice none 0 0, .bool false, .slice none 0 0] 26)) = wx at t2 bel ⊢
  have M := mx.below_ bel
  refine (HCUT.out _ M).mono ?_
  rintro e w2 ⟨rfl, hb⟩
  replace t2 := t2.below hb t2.lt
  replace bel := bel.trans (hb.mono bel.size)
  clear hb
  clear M
  go_wp2_with fail
  refine (HCP.out _).mono ?_
  rintro e w3 ⟨rfl, hb⟩
  replace t2 := t2.below hb t2.lt
  replace bel := bel.trans (hb.mono bel.size)
  clear hb
  go_wp2_with fail
  refine (HI1.out _).mono ?_
  rintro e w4 ⟨rfl, hb⟩
  replace t2 := t2.below hb t2.lt
  replace bel := bel.trans (hb.mono bel.size)
  clear hb
  go_wp2_with fail
  refine (HI2.out _).mono ?_
  rintro e w5 ⟨rfl, hb⟩
  replace t2 := t2.below hb t2.lt
  replace bel := bel.trans (hb.mono bel.size)
  clear hb
  go_wp2_with fail
  refine (HN1.out _).mono ?_
  rintro e w6 ⟨p4, A4, c4, l4, rfl, E4, hb⟩
  replace t2 := t2.below hb t2.lt
  replace bel := bel.trans (hb.mono bel.size)
  clear hb
  go_upto_region 10 with (fail)
  have hg8 : w.heap.size < w6.heap.size := t2.lt
  have t8 : Two (w6.alloc (.cells #[.bool p4, .slice A4 l4.length c4] 24)) w6.heap.size (.bool p4) (.slice A4 l4.length c4) := Two.new_ w6 (.bool p4) (.slice A4 l4.length c4) 24
  have bn : Below w6.heap.size w6 (w6.alloc (.cells #[.bool p4, .slice A4 l4.length c4] 24)) := (Below.refl _ _).alloc (Nat.le_refl _) _
  replace t2 := t2.below bn t2.lt
  replace bel := bel.trans (bn.mono bel.size)
  replace E4 := E4.below bn
  clear bn
  generalize (w6.alloc (.cells #[.bool p4, .slice A4 l4.length c4] 24)) = v1 at t2 bel E4 t8 ⊢
  generalize w6.heap.size = g8 at t2 bel E4 t8 hg8 ⊢
  have t8_0 := t8.c0
  have t8_1 := t8.c1
  go_wp2_with fail
  refine (HNG.out _ _ _ _ _ E4).mono ?_
  rintro e w7 ⟨p6, A6, c6, l6, rfl, E6, hb⟩
  clear t8_0 t8_1
  clear E4
  replace t2 := t2.below hb t2.lt
  replace bel := bel.trans (hb.mono bel.size)
  replace t8 := t8.below hb t8.lt
  clear hb
  have t8_0 := t8.c0
  have t8_1 := t8.c1
  have fa := t8.fr 0
  have fb := t8.fr 1
  go_upto_region 12 with (fail)
  clear fa fb
  clear t8_0 t8_1
  replace t2 := t2.far2 (g := g8) (by omega) (.bool p6) (.slice A6 l6.length c6)
  replace bel := below_set2 bel (b := g8) (by omega) (.bool p6) (.slice A6 l6.length c6)
  replace E6 := E6.put2 t8 (.bool p6) (.slice A6 l6.length c6)
  replace t8 := t8.put2 (.bool p6) (.slice A6 l6.length c6)
  dsimp only [set2] at t2 bel t8 E6
  generalize ((w7.setCell ⟨g8, 0, none⟩ (.bool p6)).setCell ⟨g8, 1, none⟩ (.slice A6 l6.length c6)) = v2 at t2 bel t8 E6 ⊢
  replace t2 := t2.drew
  replace bel := bDrew1 bel
  replace t8 := t8.drew
  replace E6 := E6.drew
  go_region_held3 (fun w' => w'.cell? ⟨g8, 0, none⟩ = some (.bool p6) ∧ w'.cell? ⟨g8, 1, none⟩ = some (.slice A6 l6.length c6))
    (first | with_reducible exact ⟨t8.c0, t8.c1⟩ | exact ⟨K0.out.c0, K0.out.c1⟩)
    (first
      | (go_at_call 27; (with_reducible refine (HN2.out _).mono ?_); rintro e wa ⟨p7, A7, c7, l7, rfl, E7, hb⟩; replace t2 := t2.below hb t2.lt; replace bel := bel.trans (hb.mono bel.size); replace t8 := t8.below hb t8.lt; replace E6 := E6.below hb; clear hb)
      | (go_at_call 29; (with_reducible refine (HNW.out _ _ _ _ _ _ _ _ _ E6 E7).mono ?_); rintro e wa ⟨rfl, hb⟩; replace t2 := t2.below hb t2.lt; replace bel := bel.trans (hb.mono bel.size); replace t8 := t8.below hb t8.lt; clear hb
         have d0 := t2.c0
         have f0 := t2.fr 0
         have d1 := t2.c1
         have f1 := t2.fr 1
         have d2 := t2.c2
         have f2 := t2.fr 2
         have d3 := t2.c3
         have f3 := t2.fr 3
         have K0 := Lib.hid (t8.far4 (g := w.heap.size) (by omega) (.bool false) (.slice none 0 0) (.bool false) (.slice none 0 0))
         have R := Lib.hid (t2.put (.bool false) (.slice none 0 0) (.bool false) (.slice none 0 0))
         have BL := Lib.hid (below_set4 bel (b := w.heap.size) (by omega) (.bool false) (.slice none 0 0) (.bool false) (.slice none 0 0))))
  go_wp2_with fail
  have r0 := R.out.c0
  have r1 := R.out.c1
  have r2 := R.out.c2
  have r3 := R.out.c3
  unfold set4 at r0 r1 r2 r3
  refine bodyPost_ret (v := .tuple #[.agg #[.bool false, .slice none 0 0, .bool false, .slice none 0 0], .int .i64 3]) (by simp [results, Tryz.results9, go_sem, r0, r1, r2, r3]) rfl ?_
  exact ⟨rfl, BL.out⟩
end Go.Proofs.YtkpomjdablopaaaGreatDoor
/- Walks of package rational: Parse, without a denominator. -/
namespace Go.Proofs.YtkpomjdablopaaaGreatDoor
open Go.RowKit
set_option linter.unusedVariables false

set_option maxRecDepth 100000 in
set_option maxHeartbeats 800000 in
theorem parse_oknp1 {s : ByteArray} (hs : s.size ≤ 100) {a b D B2 : List UInt8} (hcut : Lib.cut (bs s) [47] = (a, b, false)) (hD : Kt.body a = D) (hN : Kt.negB a = false) (hB : (if false = true then b else [49]) = B2) (hV1 : Kt.isNum D = true) (hV2 : Kt.isNum B2 = true) (hy : Kt.valN B2 ≠ 0) (hsD : D.length ≤ 100) (hsB : B2.length ≤ 100) (w : World) (mx : Mx w) :
    Calls Tryz.prog 9 #[.string s] w (GRc (Rat.divInt (((Kt.valN D : Nat) : Int)) ((Kt.valN B2 : Nat) : Int)) 100 w) := by
  have z0 : ¬ (8192 : Int) < (s.size : Int) := by omega
  obtain rfl : [49] = B2 := by rw [← hB]; rfl
  have g1 := (Kt.isNum_canon hV1).2.1
  have g2 := (Kt.isNum_canon hV2).2.1
  have HCUT := Lib.hid (fun (W : World) (hm : ∃ m, W.cell? ⟨2, 0, none⟩ = some (.int .i64 m)) => (by obtain ⟨m, hm⟩ := hm; refine (Tryz.strings_Cut s ⟨#[47]⟩ m W (by omega) hm).mono ?_; rintro e w' ⟨rfl, n, rfl⟩; exact ⟨by rw [show (⟨#[47]⟩ : ByteArray).data.toList = [47] from rfl, show s.data.toList = bs s from rfl, hcut]; rfl, bDrew (Below.refl _ _) n⟩ : Calls Tryz.prog 24 #[.string s, .string ⟨#[47]⟩] W fun e w' => e = .returned (.tuple #[.string (mkB a), .string (mkB b), .bool false]) ∧ Below W.heap.size W w'))
  have HCP := Lib.hid (fun (W : World) => (by have h := Tryz.strings_CutPrefix (mkB a) ⟨#[45]⟩ W; have e1 := (Kt.cut_body a).1; have e2 := (Kt.cut_body a).2; rw [show (⟨#[45]⟩ : ByteArray).data.toList = [45] from rfl, show (mkB a).data.toList = bs (mkB a) from rfl, bs_mk, e1, e2, hD, hN] at h; exact h.mono fun e w' he => ⟨he.1, by rw [he.2]; exact Below.refl _ _⟩ : Calls Tryz.prog 25 #[.string (mkB a), .string ⟨#[45]⟩] W fun e w' => e = .returned (.tuple #[.string (mkB D), .bool false]) ∧ Below W.heap.size W w'))
  have HI1 := Lib.hid (fun (W : World) => (by have h := isNumberR_any (mkB D) (by rw [mk_size]; omega) W; rw [bs_mk, hV1] at h; exact h : Calls Tryz.prog 26 #[.string (mkB D)] W fun e w' => e = .returned (.bool true) ∧ Below W.heap.size W w'))
  have HI2 := Lib.hid (fun (W : World) => (by have h := isNumberR_any (mkB [49]) (by rw [mk_size]; omega) W; rw [bs_mk, hV2] at h; exact h : Calls Tryz.prog 26 #[.string (mkB [49])] W fun e w' => e = .returned (.bool true) ∧ Below W.heap.size W w'))
  have HI2 := Lib.hid (fun (W : World) => (HI2.out W : Calls Tryz.prog 26 #[.string ⟨#[49]⟩] W fun e w' => e = .returned (.bool true) ∧ Below W.heap.size W w'))
  obtain ⟨X, hX⟩ : ∃ X : Int, X = ((Kt.valN D : Nat) : Int) := ⟨_, rfl⟩
  obtain ⟨Y, hY⟩ : ∃ Y : Int, Y = ((Kt.valN [49] : Nat) : Int) := ⟨_, rfl⟩
  have HN1 := Lib.hid (fun (W : World) => (by have h := number_any (mkB D) (by rw [mk_size]; omega) (by rw [bs_mk]; exact g1) W; rw [bs_mk, mk_size, ← hX] at h; exact h.mono fun _ _ hr => hr.more_ hsD : Calls Tryz.prog 27 #[.string (mkB D)] W (GI X 100 W)))
  have HN2 := Lib.hid (fun (W : World) => (by have h := number_any (mkB [49]) (by rw [mk_size]; omega) (by rw [bs_mk]; exact g2) W; rw [bs_mk, mk_size, ← hY] at h; exact h.mono fun _ _ hr => hr.more_ hsB : Calls Tryz.prog 27 #[.string ⟨#[49]⟩] W (GI Y 100 W)))
  obtain ⟨z, hz⟩ : ∃ z, z = Rat.divInt X Y := ⟨_, rfl⟩
  have HNW := Lib.hid (fun (W : World) (p4 : Bool) (A4 : Option Addr) (c4 : Nat) (l4 : List Nat) (p5 : Bool) (A5 : Option Addr) (c5 : Nat) (l5 : List Nat) (h : Cn W p4 A4 c4 l4 X 100) (h' : Cn W p5 A5 c5 l5 Y 100) => (by have h := gnew h.iv h'.iv (by omega) (by decide) (by decide); rw [← hz] at h; exact h : Calls Tryz.prog 29 #[.agg #[.bool p4, .slice A4 l4.length c4], .agg #[.bool p5, .slice A5 l5.length c5]] W (GRc z 100 W)))
  rw [show Rat.divInt (((Kt.valN D : Nat) : Int)) ((Kt.valN [49] : Nat) : Int) = z by rw [hz, hX, hY]]
  clear hz
  clear hs hcut hD hB hsD hsB hV1 hN hV2 g1 g2 hX hY hy
  go_enter Tryz.func9, Tryz.ntmps9
  go_wp2_with fail
  have t2 : Four (w.alloc (.cells #[.bool false, .slice none 0 0, .bool false, .slice none 0 0] 26)) w.heap.size (.bool false) (.slice none 0 0) (.bool false) (.slice none 0 0) := Four.new_ w (.bool false) (.slice none 0 0) (.bool false) (.slice none 0 0) 26
  have bel : Below w.heap.size w (w.alloc (.cells #[.bool false, .slice none 0 0, .bool false, .slice none 0 0] 26)) := (Below.refl _ _).alloc (Nat.le_refl _) _
  generalize (w.alloc (.cells #[.bool false, .slice none 0 0, .bool false, .slice none 0 0] 26)) = wx at t2 bel ⊢
  have M := mx.below_ bel
  refine (HCUT.out _ M).mono ?_
  rintro e w2 ⟨rfl, hb⟩
  replace t2 := t2.below hb t2.lt
  replace bel := bel.trans (hb.mono bel.size)
  clear hb
  clear M
  go_wp2_with fail
  refine (HCP.out _).mono ?_
  rintro e w3 ⟨rfl, hb⟩
  replace t2 := t2.below hb t2.lt
  replace bel := bel.trans (hb.mono bel.size)
  clear hb
  go_wp2_with fail
  refine (HI1.out _).mono ?_
  rintro e w4 ⟨rfl, hb⟩
  replace t2 := t2.below hb t2.lt
  replace bel := bel.trans (hb.mono bel.size)
  clear hb
  go_wp2_with fail
  refine (HI2.out _).mono ?_
  rintro e w5 ⟨rfl, hb⟩
  replace t2 := t2.below hb t2.lt
  replace bel := bel.trans (hb.mono bel.size)
  clear hb
  go_wp2_with fail
  refine (HN1.out _).mono ?_
  rintro e w6 ⟨p4, A4, c4, l4, rfl, E4, hb⟩
  replace t2 := t2.below hb t2.lt
  replace bel := bel.trans (hb.mono bel.size)
  clear hb
  go_upto_region 10 with (fail)
  have hg8 : w.heap.size < w6.heap.size := t2.lt
  have t8 : Two (w6.alloc (.cells #[.bool p4, .slice A4 l4.length c4] 24)) w6.heap.size (.bool p4) (.slice A4 l4.length c4) := Two.new_ w6 (.bool p4) (.slice A4 l4.length c4) 24
  have bn : Below w6.heap.size w6 (w6.alloc (.cells #[.bool p4, .slice A4 l4.length c4] 24)) := (Below.refl _ _).alloc (Nat.le_refl _) _
  replace t2 := t2.below bn t2.lt
  replace bel := bel.trans (bn.mono bel.size)
  replace E4 := E4.below bn
  clear bn
  generalize (w6.alloc (.cells #[.bool p4, .slice A4 l4.length c4] 24)) = v1 at t2 bel E4 t8 ⊢
  generalize w6.heap.size = g8 at t2 bel E4 t8 hg8 ⊢
  go_upto_region 12 with (fail)
  replace t2 := t2.drew
  replace bel := bDrew1 bel
  replace E4 := E4.drew
  replace t8 := t8.drew
  go_region_held3 (fun w' => w'.cell? ⟨g8, 0, none⟩ = some (.bool p4) ∧ w'.cell? ⟨g8, 1, none⟩ = some (.slice A4 l4.length c4))
    (first | with_reducible exact ⟨t8.c0, t8.c1⟩ | exact ⟨K0.out.c0, K0.out.c1⟩)
    (first
      | (go_at_call 27; (with_reducible refine (HN2.out _).mono ?_); rintro e wa ⟨p7, A7, c7, l7, rfl, E7, hb⟩; replace t2 := t2.below hb t2.lt; replace bel := bel.trans (hb.mono bel.size); replace E4 := E4.below hb; replace t8 := t8.below hb t8.lt; clear hb)
      | (go_at_call 29; (with_reducible refine (HNW.out _ _ _ _ _ _ _ _ _ E4 E7).mono ?_); rintro e wa ⟨A8, c8, l8, A9, c9, l9, rfl, CC, hb⟩; replace t2 := t2.below hb t2.lt; replace bel := bel.trans (hb.mono bel.size); replace t8 := t8.below hb t8.lt; clear hb
         have d0 := t2.c0
         have f0 := t2.fr 0
         have d1 := t2.c1
         have f1 := t2.fr 1
         have d2 := t2.c2
         have f2 := t2.fr 2
         have d3 := t2.c3
         have f3 := t2.fr 3
         have K0 := Lib.hid (t8.far4 (g := w.heap.size) (by omega) (.bool (decide (z.num < 0))) (.slice A8 l8.length c8) (.bool false) (.slice A9 l9.length c9))
         have R := Lib.hid (t2.put (.bool (decide (z.num < 0))) (.slice A8 l8.length c8) (.bool false) (.slice A9 l9.length c9))
         have CR := Lib.hid (CC.put4 t2 (.bool (decide (z.num < 0))) (.slice A8 l8.length c8) (.bool false) (.slice A9 l9.length c9))
         have BL := Lib.hid (below_set4 bel (b := w.heap.size) (by omega) (.bool (decide (z.num < 0))) (.slice A8 l8.length c8) (.bool false) (.slice A9 l9.length c9))))
  go_wp2_with fail
  have r0 := R.out.c0
  have r1 := R.out.c1
  have r2 := R.out.c2
  have r3 := R.out.c3
  unfold set4 at r0 r1 r2 r3
  refine bodyPost_ret (v := .tuple #[.agg #[.bool (decide (z.num < 0)), .slice A8 l8.length c8, .bool false, .slice A9 l9.length c9], .int .i64 0]) (by simp [results, Tryz.results9, go_sem, r0, r1, r2, r3]) rfl ?_
  exact ⟨A8, c8, l8, A9, c9, l9, rfl, CR.out, BL.out⟩

set_option maxRecDepth 100000 in
set_option maxHeartbeats 800000 in
theorem parse_oknm1 {s : ByteArray} (hs : s.size ≤ 100) {a b D B2 : List UInt8} (hcut : Lib.cut (bs s) [47] = (a, b, false)) (hD : Kt.body a = D) (hN : Kt.negB a = true) (hB : (if false = true then b else [49]) = B2) (hV1 : Kt.isNum D = true) (hV2 : Kt.isNum B2 = true) (hZ : (D == [48]) = false) (hy : Kt.valN B2 ≠ 0) (hsD : D.length ≤ 100) (hsB : B2.length ≤ 100) (w : World) (mx : Mx w) :
    Calls Tryz.prog 9 #[.string s] w (GRc (Rat.divInt (-((Kt.valN D : Nat) : Int)) ((Kt.valN B2 : Nat) : Int)) 100 w) := by
  have z0 : ¬ (8192 : Int) < (s.size : Int) := by omega
  obtain rfl : [49] = B2 := by rw [← hB]; rfl
  have g1 := (Kt.isNum_canon hV1).2.1
  have g2 := (Kt.isNum_canon hV2).2.1
  have HCUT := Lib.hid (fun (W : World) (hm : ∃ m, W.cell? ⟨2, 0, none⟩ = some (.int .i64 m)) => (by obtain ⟨m, hm⟩ := hm; refine (Tryz.strings_Cut s ⟨#[47]⟩ m W (by omega) hm).mono ?_; rintro e w' ⟨rfl, n, rfl⟩; exact ⟨by rw [show (⟨#[47]⟩ : ByteArray).data.toList = [47] from rfl, show s.data.toList = bs s from rfl, hcut]; rfl, bDrew (Below.refl _ _) n⟩ : Calls Tryz.prog 24 #[.string s, .string ⟨#[47]⟩] W fun e w' => e = .returned (.tuple #[.string (mkB a), .string (mkB b), .bool false]) ∧ Below W.heap.size W w'))
  have HCP := Lib.hid (fun (W : World) => (by have h := Tryz.strings_CutPrefix (mkB a) ⟨#[45]⟩ W; have e1 := (Kt.cut_body a).1; have e2 := (Kt.cut_body a).2; rw [show (⟨#[45]⟩ : ByteArray).data.toList = [45] from rfl, show (mkB a).data.toList = bs (mkB a) from rfl, bs_mk, e1, e2, hD, hN] at h; exact h.mono fun e w' he => ⟨he.1, by rw [he.2]; exact Below.refl _ _⟩ : Calls Tryz.prog 25 #[.string (mkB a), .string ⟨#[45]⟩] W fun e w' => e = .returned (.tuple #[.string (mkB D), .bool true]) ∧ Below W.heap.size W w'))
  have HI1 := Lib.hid (fun (W : World) => (by have h := isNumberR_any (mkB D) (by rw [mk_size]; omega) W; rw [bs_mk, hV1] at h; exact h : Calls Tryz.prog 26 #[.string (mkB D)] W fun e w' => e = .returned (.bool true) ∧ Below W.heap.size W w'))
  have HI2 := Lib.hid (fun (W : World) => (by have h := isNumberR_any (mkB [49]) (by rw [mk_size]; omega) W; rw [bs_mk, hV2] at h; exact h : Calls Tryz.prog 26 #[.string (mkB [49])] W fun e w' => e = .returned (.bool true) ∧ Below W.heap.size W w'))
  have q1 : ((mkB D).toList == [48]) = false := by rw [bs_toList, bs_mk]; exact hZ
  have HI2 := Lib.hid (fun (W : World) => (HI2.out W : Calls Tryz.prog 26 #[.string ⟨#[49]⟩] W fun e w' => e = .returned (.bool true) ∧ Below W.heap.size W w'))
  obtain ⟨X, hX⟩ : ∃ X : Int, X = ((Kt.valN D : Nat) : Int) := ⟨_, rfl⟩
  obtain ⟨Y, hY⟩ : ∃ Y : Int, Y = ((Kt.valN [49] : Nat) : Int) := ⟨_, rfl⟩
  have HN1 := Lib.hid (fun (W : World) => (by have h := number_any (mkB D) (by rw [mk_size]; omega) (by rw [bs_mk]; exact g1) W; rw [bs_mk, mk_size, ← hX] at h; exact h.mono fun _ _ hr => hr.more_ hsD : Calls Tryz.prog 27 #[.string (mkB D)] W (GI X 100 W)))
  have HN2 := Lib.hid (fun (W : World) => (by have h := number_any (mkB [49]) (by rw [mk_size]; omega) (by rw [bs_mk]; exact g2) W; rw [bs_mk, mk_size, ← hY] at h; exact h.mono fun _ _ hr => hr.more_ hsB : Calls Tryz.prog 27 #[.string ⟨#[49]⟩] W (GI Y 100 W)))
  have HNG := Lib.hid (fun (W : World) (p4 : Bool) (A4 : Option Addr) (c4 : Nat) (l4 : List Nat) (h : Cn W p4 A4 c4 l4 X 100) => gneg h.iv (by decide))
  obtain ⟨z, hz⟩ : ∃ z, z = Rat.divInt (-X) Y := ⟨_, rfl⟩
  have HNW := Lib.hid (fun (W : World) (p4 : Bool) (A4 : Option Addr) (c4 : Nat) (l4 : List Nat) (p5 : Bool) (A5 : Option Addr) (c5 : Nat) (l5 : List Nat) (h : Cn W p4 A4 c4 l4 (-X) 100) (h' : Cn W p5 A5 c5 l5 Y 100) => (by have h := gnew h.iv h'.iv (by omega) (by decide) (by decide); rw [← hz] at h; exact h : Calls Tryz.prog 29 #[.agg #[.bool p4, .slice A4 l4.length c4], .agg #[.bool p5, .slice A5 l5.length c5]] W (GRc z 100 W)))
  rw [show Rat.divInt (-((Kt.valN D : Nat) : Int)) ((Kt.valN [49] : Nat) : Int) = z by rw [hz, hX, hY]]
  clear hz
  clear hs hcut hD hB hsD hsB hV1 hN hV2 g1 g2 hX hY hy hZ
  go_enter Tryz.func9, Tryz.ntmps9
  go_wp2_with fail
  have t2 : Four (w.alloc (.cells #[.bool false, .slice none 0 0, .bool false, .slice none 0 0] 26)) w.heap.size (.bool false) (.slice none 0 0) (.bool false) (.slice none 0 0) := Four.new_ w (.bool false) (.slice none 0 0) (.bool false) (.slice none 0 0) 26
  have bel : Below w.heap.size w (w.alloc (.cells #[.bool false, .slice none 0 0, .bool false, .slice none 0 0] 26)) := (Below.refl _ _).alloc (Nat.le_refl _) _
  generalize (w.alloc (.cells #[.bool false, .slice none 0 0, .bool false, .slice none 0 0] 26)) = wx at t2 bel ⊢
  have M := mx.below_ bel
  refine (HCUT.out _ M).mono ?_
  rintro e w2 ⟨rfl, hb⟩
  replace t2 := t2.below hb t2.lt
  replace bel := bel.trans (hb.mono bel.size)
  clear hb
  clear M
  go_wp2_with fail
  refine (HCP.out _).mono ?_
  rintro e w3 ⟨rfl, hb⟩
  replace t2 := t2.below hb t2.lt
  replace bel := bel.trans (hb.mono bel.size)
  clear hb
  go_wp2_with fail
  refine (HI1.out _).mono ?_
  rintro e w4 ⟨rfl, hb⟩
  replace t2 := t2.below hb t2.lt
  replace bel := bel.trans (hb.mono bel.size)
  clear hb
  go_wp2_with fail
  refine (HI2.out _).mono ?_
  rintro e w5 ⟨rfl, hb⟩
  replace t2 := t2.below hb t2.lt
  replace bel := bel.trans (hb.mono bel.size)
  clear hb
  go_wp2_with fail
  refine (HN1.out _).mono ?_
  rintro e w6 ⟨p4, A4, c4, l4, rfl, E4, hb⟩
  replace t2 := t2.below hb t2.lt
  replace bel := bel.trans (hb.mono bel.size)
  clear hb
  go_upto_region 10 with (fail)
  have hg8 : w.heap.size < w6.heap.size := t2.lt
  have t8 : Two (w6.alloc (.cells #[.bool p4, .slice A4 l4.length c4] 24)) w6.heap.size (.bool p4) (.slice A4 l4.length c4) := Two.new_ w6 (.bool p4) (.slice A4 l4.length c4) 24
  have bn : Below w6.heap.size w6 (w6.alloc (.cells #[.bool p4, .slice A4 l4.length c4] 24)) := (Below.refl _ _).alloc (Nat.le_refl _) _
  replace t2 := t2.below bn t2.lt
  replace bel := bel.trans (bn.mono bel.size)
  replace E4 := E4.below bn
  clear bn
  generalize (w6.alloc (.cells #[.bool p4, .slice A4 l4.length c4] 24)) = v1 at t2 bel E4 t8 ⊢
  generalize w6.heap.size = g8 at t2 bel E4 t8 hg8 ⊢
  have t8_0 := t8.c0
  have t8_1 := t8.c1
  go_wp2_with fail
  refine (HNG.out _ _ _ _ _ E4).mono ?_
  rintro e w7 ⟨p6, A6, c6, l6, rfl, E6, hb⟩
  clear t8_0 t8_1
  clear E4
  replace t2 := t2.below hb t2.lt
  replace bel := bel.trans (hb.mono bel.size)
  replace t8 := t8.below hb t8.lt
  clear hb
  have t8_0 := t8.c0
  have t8_1 := t8.c1
  have fa := t8.fr 0
  have fb := t8.fr 1
  go_upto_region 12 with (fail)
  clear fa fb
  clear t8_0 t8_1
  replace t2 := t2.far2 (g := g8) (by omega) (.bool p6) (.slice A6 l6.length c6)
  replace bel := below_set2 bel (b := g8) (by omega) (.bool p6) (.slice A6 l6.length c6)
  replace E6 := E6.put2 t8 (.bool p6) (.slice A6 l6.length c6)
  replace t8 := t8.put2 (.bool p6) (.slice A6 l6.length c6)
  dsimp only [set2] at t2 bel t8 E6
  generalize ((w7.setCell ⟨g8, 0, none⟩ (.bool p6)).setCell ⟨g8, 1, none⟩ (.slice A6 l6.length c6)) = v2 at t2 bel t8 E6 ⊢
  replace t2 := t2.drew
  replace bel := bDrew1 bel
  replace t8 := t8.drew
  replace E6 := E6.drew
  go_region_held3 (fun w' => w'.cell? ⟨g8, 0, none⟩ = some (.bool p6) ∧ w'.cell? ⟨g8, 1, none⟩ = some (.slice A6 l6.length c6))
    (first | with_reducible exact ⟨t8.c0, t8.c1⟩ | exact ⟨K0.out.c0, K0.out.c1⟩)
    (first
      | (go_at_call 27; (with_reducible refine (HN2.out _).mono ?_); rintro e wa ⟨p7, A7, c7, l7, rfl, E7, hb⟩; replace t2 := t2.below hb t2.lt; replace bel := bel.trans (hb.mono bel.size); replace t8 := t8.below hb t8.lt; replace E6 := E6.below hb; clear hb)
      | (go_at_call 29; (with_reducible refine (HNW.out _ _ _ _ _ _ _ _ _ E6 E7).mono ?_); rintro e wa ⟨A8, c8, l8, A9, c9, l9, rfl, CC, hb⟩; replace t2 := t2.below hb t2.lt; replace bel := bel.trans (hb.mono bel.size); replace t8 := t8.below hb t8.lt; clear hb
         have d0 := t2.c0
         have f0 := t2.fr 0
         have d1 := t2.c1
         have f1 := t2.fr 1
         have d2 := t2.c2
         have f2 := t2.fr 2
         have d3 := t2.c3
         have f3 := t2.fr 3
         have K0 := Lib.hid (t8.far4 (g := w.heap.size) (by omega) (.bool (decide (z.num < 0))) (.slice A8 l8.length c8) (.bool false) (.slice A9 l9.length c9))
         have R := Lib.hid (t2.put (.bool (decide (z.num < 0))) (.slice A8 l8.length c8) (.bool false) (.slice A9 l9.length c9))
         have CR := Lib.hid (CC.put4 t2 (.bool (decide (z.num < 0))) (.slice A8 l8.length c8) (.bool false) (.slice A9 l9.length c9))
         have BL := Lib.hid (below_set4 bel (b := w.heap.size) (by omega) (.bool (decide (z.num < 0))) (.slice A8 l8.length c8) (.bool false) (.slice A9 l9.length c9))))
  go_wp2_with fail
  have r0 := R.out.c0
  have r1 := R.out.c1
  have r2 := R.out.c2
  have r3 := R.out.c3
  unfold set4 at r0 r1 r2 r3
  refine bodyPost_ret (v := .tuple #[.agg #[.bool (decide (z.num < 0)), .slice A8 l8.length c8, .bool false, .slice A9 l9.length c9], .int .i64 0]) (by simp [results, Tryz.results9, go_sem, r0, r1, r2, r3]) rfl ?_
  exact ⟨A8, c8, l8, A9, c9, l9, rfl, CR.out, BL.out⟩
end Go.Proofs.YtkpomjdablopaaaGreatDoor
/- Walks of package rational: Parse, syntax errors without a denominator. -/
namespace Go.Proofs.YtkpomjdablopaaaGreatDoor
open Go.RowKit
set_option linter.unusedVariables false

set_option maxRecDepth 100000 in
set_option maxHeartbeats 800000 in
theorem parse_bad1n {s : ByteArray} (hs : s.size ≤ 100) {a b D B2 : List UInt8} {N : Bool} (hcut : Lib.cut (bs s) [47] = (a, b, false)) (hD : Kt.body a = D) (hN : Kt.negB a = N) (hB : (if false = true then b else [49]) = B2) (hV1 : Kt.isNum D = false) (hsD : D.length ≤ 100) (hsB : B2.length ≤ 100) (w : World) (mx : Mx w) :
    Calls Tryz.prog 9 #[.string s] w fun e w' => e = .returned (.tuple #[ratV false none 0 0 false none 0 0, .int .i64 6]) ∧ Below w.heap.size w w' := by
  unfold ratV
  have z0 : ¬ (8192 : Int) < (s.size : Int) := by omega
  obtain rfl : [49] = B2 := by rw [← hB]; rfl
  have HCUT := Lib.hid (fun (W : World) (hm : ∃ m, W.cell? ⟨2, 0, none⟩ = some (.int .i64 m)) => (by obtain ⟨m, hm⟩ := hm; refine (Tryz.strings_Cut s ⟨#[47]⟩ m W (by omega) hm).mono ?_; rintro e w' ⟨rfl, n, rfl⟩; exact ⟨by rw [show (⟨#[47]⟩ : ByteArray).data.toList = [47] from rfl, show s.data.toList = bs s from rfl, hcut]; rfl, bDrew (Below.refl _ _) n⟩ : Calls Tryz.prog 24 #[.string s, .string ⟨#[47]⟩] W fun e w' => e = .returned (.tuple #[.string (mkB a), .string (mkB b), .bool false]) ∧ Below W.heap.size W w'))
  have HCP := Lib.hid (fun (W : World) => (by have h := Tryz.strings_CutPrefix (mkB a) ⟨#[45]⟩ W; have e1 := (Kt.cut_body a).1; have e2 := (Kt.cut_body a).2; rw [show (⟨#[45]⟩ : ByteArray).data.toList = [45] from rfl, show (mkB a).data.toList = bs (mkB a) from rfl, bs_mk, e1, e2, hD, hN] at h; exact h.mono fun e w' he => ⟨he.1, by rw [he.2]; exact Below.refl _ _⟩ : Calls Tryz.prog 25 #[.string (mkB a), .string ⟨#[45]⟩] W fun e w' => e = .returned (.tuple #[.string (mkB D), .bool N]) ∧ Below W.heap.size W w'))
  have HI1 := Lib.hid (fun (W : World) => (by have h := isNumberR_any (mkB D) (by rw [mk_size]; omega) W; rw [bs_mk, hV1] at h; exact h : Calls Tryz.prog 26 #[.string (mkB D)] W fun e w' => e = .returned (.bool false) ∧ Below W.heap.size W w'))
  clear hs hcut hD hB hsD hsB hV1 hN
  go_enter Tryz.func9, Tryz.ntmps9
  go_wp2_with fail
  have t2 : Four (w.alloc (.cells #[.bool false, .slice none 0 0, .bool false, .slice none 0 0] 26)) w.heap.size (.bool false) (.slice none 0 0) (.bool false) (.slice none 0 0) := Four.new_ w (.bool false) (.slice none 0 0) (.bool false) (.slice none 0 0) 26
  have bel : Below w.heap.size w (w.alloc (.cells #[.bool false, .slice none 0 0, .bool false, .slice none 0 0] 26)) := (Below.refl _ _).alloc (Nat.le_refl _) _
  generalize (w.alloc (.cells #[.bool false, .slice none 0 0, .bool false, .slice none 0 0] 26)) = wx at t2 bel ⊢
  have M := mx.below_ bel
  refine (HCUT.out _ M).mono ?_
  rintro e w2 ⟨rfl, hb⟩
  replace t2 := t2.below hb t2.lt
  replace bel := bel.trans (hb.mono bel.size)
  clear hb
  clear M
  go_wp2_with fail
  refine (HCP.out _).mono ?_
  rintro e w3 ⟨rfl, hb⟩
  replace t2 := t2.below hb t2.lt
  replace bel := bel.trans (hb.mono bel.size)
  clear hb
  go_wp2_with fail
  refine (HI1.out _).mono ?_
  rintro e w4 ⟨rfl, hb⟩
  replace t2 := t2.below hb t2.lt
  replace bel := bel.trans (hb.mono bel.size)
  clear hb
  have d0 := t2.c0
  have d1 := t2.c1
  have d2 := t2.c2
  have d3 := t2.c3
  have f0 := t2.fr 0
  have f1 := t2.fr 1
  have f2 := t2.fr 2
  have f3 := t2.fr 3
  have R := Lib.hid (t2.put (.bool false) (.slice none 0 0) (.bool false) (.slice none 0 0))
  have BL := Lib.hid (below_set4 bel (b := w.heap.size) (by omega) (.bool false) (.slice none 0 0) (.bool false) (.slice none 0 0))
  clear t2 bel
  go_wp2_with fail
  have r0 := R.out.c0
  have r1 := R.out.c1
  have r2 := R.out.c2
  have r3 := R.out.c3
  unfold set4 at r0 r1 r2 r3
  refine bodyPost_ret (v := .tuple #[.agg #[.bool false, .slice none 0 0, .bool false, .slice none 0 0], .int .i64 6]) (by simp [results, Tryz.results9, go_sem, r0, r1, r2, r3]) rfl ?_
  exact ⟨rfl, BL.out⟩

set_option maxRecDepth 100000 in
set_option maxHeartbeats 800000 in
theorem parse_bad2n {s : ByteArray} (hs : s.size ≤ 100) {a b D B2 : List UInt8} {N : Bool} (hcut : Lib.cut (bs s) [47] = (a, b, false)) (hD : Kt.body a = D) (hN : Kt.negB a = N) (hB : (if false = true then b else [49]) = B2) (hV1 : Kt.isNum D = true) (hV2 : Kt.isNum B2 = false) (hsD : D.length ≤ 100) (hsB : B2.length ≤ 100) (w : World) (mx : Mx w) :
    Calls Tryz.prog 9 #[.string s] w fun e w' => e = .returned (.tuple #[ratV false none 0 0 false none 0 0, .int .i64 6]) ∧ Below w.heap.size w w' := by
  unfold ratV
  have z0 : ¬ (8192 : Int) < (s.size : Int) := by omega
  obtain rfl : [49] = B2 := by rw [← hB]; rfl
  have HCUT := Lib.hid (fun (W : World) (hm : ∃ m, W.cell? ⟨2, 0, none⟩ = some (.int .i64 m)) => (by obtain ⟨m, hm⟩ := hm; refine (Tryz.strings_Cut s ⟨#[47]⟩ m W (by omega) hm).mono ?_; rintro e w' ⟨rfl, n, rfl⟩; exact ⟨by rw [show (⟨#[47]⟩ : ByteArray).data.toList = [47] from rfl, show s.data.toList = bs s from rfl, hcut]; rfl, bDrew (Below.refl _ _) n⟩ : Calls Tryz.prog 24 #[.string s, .string ⟨#[47]⟩] W fun e w' => e = .returned (.tuple #[.string (mkB a), .string (mkB b), .bool false]) ∧ Below W.heap.size W w'))
  have HCP := Lib.hid (fun (W : World) => (by have h := Tryz.strings_CutPrefix (mkB a) ⟨#[45]⟩ W; have e1 := (Kt.cut_body a).1; have e2 := (Kt.cut_body a).2; rw [show (⟨#[45]⟩ : ByteArray).data.toList = [45] from rfl, show (mkB a).data.toList = bs (mkB a) from rfl, bs_mk, e1, e2, hD, hN] at h; exact h.mono fun e w' he => ⟨he.1, by rw [he.2]; exact Below.refl _ _⟩ : Calls Tryz.prog 25 #[.string (mkB a), .string ⟨#[45]⟩] W fun e w' => e = .returned (.tuple #[.string (mkB D), .bool N]) ∧ Below W.heap.size W w'))
  have HI1 := Lib.hid (fun (W : World) => (by have h := isNumberR_any (mkB D) (by rw [mk_size]; omega) W; rw [bs_mk, hV1] at h; exact h : Calls Tryz.prog 26 #[.string (mkB D)] W fun e w' => e = .returned (.bool true) ∧ Below W.heap.size W w'))
  have HI2 := Lib.hid (fun (W : World) => (by have h := isNumberR_any (mkB [49]) (by rw [mk_size]; omega) W; rw [bs_mk, hV2] at h; exact h : Calls Tryz.prog 26 #[.string (mkB [49])] W fun e w' => e = .returned (.bool false) ∧ Below W.heap.size W w'))
  have HI2 := Lib.hid (fun (W : World) => (HI2.out W : Calls Tryz.prog 26 #[.string ⟨#[49]⟩] W fun e w' => e = .returned (.bool false) ∧ Below W.heap.size W w'))
  clear hs hcut hD hB hsD hsB hV1 hN hV2
  go_enter Tryz.func9, Tryz.ntmps9
  go_wp2_with fail
  have t2 : Four (w.alloc (.cells #[.bool false, .slice none 0 0, .bool false, .slice none 0 0] 26)) w.heap.size (.bool false) (.slice none 0 0) (.bool false) (.slice none 0 0) := Four.new_ w (.bool false) (.slice none 0 0) (.bool false) (.slice none 0 0) 26
  have bel : Below w.heap.size w (w.alloc (.cells #[.bool false, .slice none 0 0, .bool false, .slice none 0 0] 26)) := (Below.refl _ _).alloc (Nat.le_refl _) _
  generalize (w.alloc (.cells #[.bool false, .slice none 0 0, .bool false, .slice none 0 0] 26)) = wx at t2 bel ⊢
  have M := mx.below_ bel
  refine (HCUT.out _ M).mono ?_
  rintro e w2 ⟨rfl, hb⟩
  replace t2 := t2.below hb t2.lt
  replace bel := bel.trans (hb.mono bel.size)
  clear hb
  clear M
  go_wp2_with fail
  refine (HCP.out _).mono ?_
  rintro e w3 ⟨rfl, hb⟩
  replace t2 := t2.below hb t2.lt
  replace bel := bel.trans (hb.mono bel.size)
  clear hb
  go_wp2_with fail
  refine (HI1.out _).mono ?_
  rintro e w4 ⟨rfl, hb⟩
  replace t2 := t2.below hb t2.lt
  replace bel := bel.trans (hb.mono bel.size)
  clear hb
  go_wp2_with fail
  refine (HI2.out _).mono ?_
  rintro e w5 ⟨rfl, hb⟩
  replace t2 := t2.below hb t2.lt
  replace bel := bel.trans (hb.mono bel.size)
  clear hb
  have d0 := t2.c0
  have d1 := t2.c1
  have d2 := t2.c2
  have d3 := t2.c3
  have f0 := t2.fr 0
  have f1 := t2.fr 1
  have f2 := t2.fr 2
  have f3 := t2.fr 3
  have R := Lib.hid (t2.put (.bool false) (.slice none 0 0) (.bool false) (.slice none 0 0))
  have BL := Lib.hid (below_set4 bel (b := w.heap.size) (by omega) (.bool false) (.slice none 0 0) (.bool false) (.slice none 0 0))
  clear t2 bel
  go_wp2_with fail
  have r0 := R.out.c0
  have r1 := R.out.c1
  have r2 := R.out.c2
  have r3 := R.out.c3
  unfold set4 at r0 r1 r2 r3
  refine bodyPost_ret (v := .tuple #[.agg #[.bool false, .slice none 0 0, .bool false, .slice none 0 0], .int .i64 6]) (by simp [results, Tryz.results9, go_sem, r0, r1, r2, r3]) rfl ?_
  exact ⟨rfl, BL.out⟩

set_option maxRecDepth 100000 in
set_option maxHeartbeats 800000 in
theorem parse_bad3n {s : ByteArray} (hs : s.size ≤ 100) {a b D B2 : List UInt8} (hcut : Lib.cut (bs s) [47] = (a, b, false)) (hD : Kt.body a = D) (hN : Kt.negB a = true) (hB : (if false = true then b else [49]) = B2) (hV1 : Kt.isNum D = true) (hV2 : Kt.isNum B2 = true) (hZ : (D == [48]) = true) (hsD : D.length ≤ 100) (hsB : B2.length ≤ 100) (w : World) (mx : Mx w) :
    Calls Tryz.prog 9 #[.string s] w fun e w' => e = .returned (.tuple #[ratV false none 0 0 false none 0 0, .int .i64 6]) ∧ Below w.heap.size w w' := by
  unfold ratV
  have z0 : ¬ (8192 : Int) < (s.size : Int) := by omega
  obtain rfl : [49] = B2 := by rw [← hB]; rfl
  have HCUT := Lib.hid (fun (W : World) (hm : ∃ m, W.cell? ⟨2, 0, none⟩ = some (.int .i64 m)) => (by obtain ⟨m, hm⟩ := hm; refine (Tryz.strings_Cut s ⟨#[47]⟩ m W (by omega) hm).mono ?_; rintro e w' ⟨rfl, n, rfl⟩; exact ⟨by rw [show (⟨#[47]⟩ : ByteArray).data.toList = [47] from rfl, show s.data.toList = bs s from rfl, hcut]; rfl, bDrew (Below.refl _ _) n⟩ : Calls Tryz.prog 24 #[.string s, .string ⟨#[47]⟩] W fun e w' => e = .returned (.tuple #[.string (mkB a), .string (mkB b), .bool false]) ∧ Below W.heap.size W w'))
  have HCP := Lib.hid (fun (W : World) => (by have h := Tryz.strings_CutPrefix (mkB a) ⟨#[45]⟩ W; have e1 := (Kt.cut_body a).1; have e2 := (Kt.cut_body a).2; rw [show (⟨#[45]⟩ : ByteArray).data.toList = [45] from rfl, show (mkB a).data.toList = bs (mkB a) from rfl, bs_mk, e1, e2, hD, hN] at h; exact h.mono fun e w' he => ⟨he.1, by rw [he.2]; exact Below.refl _ _⟩ : Calls Tryz.prog 25 #[.string (mkB a), .string ⟨#[45]⟩] W fun e w' => e = .returned (.tuple #[.string (mkB D), .bool true]) ∧ Below W.heap.size W w'))
  have HI1 := Lib.hid (fun (W : World) => (by have h := isNumberR_any (mkB D) (by rw [mk_size]; omega) W; rw [bs_mk, hV1] at h; exact h : Calls Tryz.prog 26 #[.string (mkB D)] W fun e w' => e = .returned (.bool true) ∧ Below W.heap.size W w'))
  have HI2 := Lib.hid (fun (W : World) => (by have h := isNumberR_any (mkB [49]) (by rw [mk_size]; omega) W; rw [bs_mk, hV2] at h; exact h : Calls Tryz.prog 26 #[.string (mkB [49])] W fun e w' => e = .returned (.bool true) ∧ Below W.heap.size W w'))
  have q1 : ((mkB D).toList == [48]) = true := by rw [bs_toList, bs_mk]; exact hZ
  have HI2 := Lib.hid (fun (W : World) => (HI2.out W : Calls Tryz.prog 26 #[.string ⟨#[49]⟩] W fun e w' => e = .returned (.bool true) ∧ Below W.heap.size W w'))
  clear hs hcut hD hB hsD hsB hV1 hV2 hN hZ
  go_enter Tryz.func9, Tryz.ntmps9
  go_wp2_with fail
  have t2 : Four (w.alloc (.cells #[.bool false, .slice none 0 0, .bool false, .slice none 0 0] 26)) w.heap.size (.bool false) (.slice none 0 0) (.bool false) (.slice none 0 0) := Four.new_ w (.bool false) (.slice none 0 0) (.bool false) (.slice none 0 0) 26
  have bel : Below w.heap.size w (w.alloc (.cells #[.bool false, .slice none 0 0, .bool false, .slice none 0 0] 26)) := (Below.refl _ _).alloc (Nat.le_refl _) _
  generalize (w.alloc (.cells #[.bool false, .slice none 0 0, .bool false, .slice none 0 0] 26)) = wx at t2 bel ⊢
  have M := mx.below_ bel
  refine (HCUT.out _ M).mono ?_
  rintro e w2 ⟨rfl, hb⟩
  replace t2 := t2.below hb t2.lt
  replace bel := bel.trans (hb.mono bel.size)
  clear hb
  clear M
  go_wp2_with fail
  refine (HCP.out _).mono ?_
  rintro e w3 ⟨rfl, hb⟩
  replace t2 := t2.below hb t2.lt
  replace bel := bel.trans (hb.mono bel.size)
  clear hb
  go_wp2_with fail
  refine (HI1.out _).mono ?_
  rintro e w4 ⟨rfl, hb⟩
  replace t2 := t2.below hb t2.lt
  replace bel := bel.trans (hb.mono bel.size)
  clear hb
  go_wp2_with fail
  refine (HI2.out _).mono ?_
  rintro e w5 ⟨rfl, hb⟩
  replace t2 := t2.below hb t2.lt
  replace bel := bel.trans (hb.mono bel.size)
  clear hb
  have d0 := t2.c0
  have d1 := t2.c1
  have d2 := t2.c2
  have d3 := t2.c3
  have f0 := t2.fr 0
  have f1 := t2.fr 1
  have f2 := t2.fr 2
  have f3 := t2.fr 3
  have R := Lib.hid (t2.put (.bool false) (.slice none 0 0) (.bool false) (.slice none 0 0))
  have BL := Lib.hid (below_set4 bel (b := w.heap.size) (by omega) (.bool false) (.slice none 0 0) (.bool false) (.slice none 0 0))
  clear t2 bel
  go_wp2_with fail
  have r0 := R.out.c0
  have r1 := R.out.c1
  have r2 := R.out.c2
  have r3 := R.out.c3
  unfold set4 at r0 r1 r2 r3
  refine bodyPost_ret (v := .tuple #[.agg #[.bool false, .slice none 0 0, .bool false, .slice none 0 0], .int .i64 6]) (by simp [results, Tryz.results9, go_sem, r0, r1, r2, r3]) rfl ?_
  exact ⟨rfl, BL.out⟩
end Go.Proofs.YtkpomjdablopaaaGreatDoor
/- Walks of package rational: what Parse makes of a text. -/
namespace Go.Proofs.YtkpomjdablopaaaGreatDoor
open Go.RowKit
set_option linter.unusedVariables false

namespace Kt
theorem pre_app1 (a b : List UInt8) : a.isPrefixOf (a ++ b) = true := by rw [List.isPrefixOf_iff_prefix]; exact List.prefix_append a b
theorem pre_ne1 {c x : UInt8} (h : x ≠ c) (l : List UInt8) : [c].isPrefixOf (x :: l) = false := by
  rw [List.isPrefixOf_cons_cons, beq_eq_false_iff_ne.2 (Ne.symm h), Bool.false_and]
theorem index_app1 (c : UInt8) (r : List UInt8) : ∀ p : List UInt8, (∀ x ∈ p, x ≠ c) → Lib.index (p ++ c :: r) [c] = p.length := by
  intro p
  induction p with
  | nil =>
    intro _
    show (if [c].isPrefixOf (c :: r) then (0 : Int) else _) = _
    rw [if_pos (show [c].isPrefixOf (c :: r) = true from pre_app1 [c] r)]; rfl
  | cons x p ih =>
    intro h
    have i := ih fun y hy => h y (List.mem_cons_of_mem _ hy)
    show (if [c].isPrefixOf (x :: (p ++ c :: r)) then (0 : Int) else if Lib.index (p ++ c :: r) [c] == -1 then -1 else Lib.index (p ++ c :: r) [c] + 1) = _
    rw [pre_ne1 (h x (List.mem_cons_self ..)), if_neg (by decide), i, if_neg (by simp), List.length_cons]
    omega
theorem index_no1 (c : UInt8) : ∀ p : List UInt8, (∀ x ∈ p, x ≠ c) → Lib.index p [c] = -1 := by
  intro p
  induction p with
  | nil => intro _; rfl
  | cons x p ih =>
    intro h
    have i := ih fun y hy => h y (List.mem_cons_of_mem _ hy)
    show (if [c].isPrefixOf (x :: p) then (0 : Int) else if Lib.index p [c] == -1 then -1 else Lib.index p [c] + 1) = _
    rw [pre_ne1 (h x (List.mem_cons_self ..)), if_neg (by decide), i]; rfl
theorem cut1 (p r : List UInt8) (h : ∀ x ∈ p, x ≠ 47) : Lib.cut (p ++ 47 :: r) [47] = (p, r, true) := by
  unfold Lib.cut
  rw [index_app1 47 r p h, if_pos (by omega), Int.toNat_natCast, List.take_left]
  have e : (p ++ 47 :: r).drop (p.length + [(47 : UInt8)].length) = r := by
    rw [← List.drop_drop, List.drop_left]; rfl
  rw [e]
theorem cut0 (p : List UInt8) (h : ∀ x ∈ p, x ≠ 47) : Lib.cut p [47] = (p, [], false) := by
  unfold Lib.cut
  rw [index_no1 47 p h, if_neg (by decide)]
theorem split47 : ∀ t : List UInt8, (∃ p r, t = p ++ 47 :: r ∧ ∀ x ∈ p, x ≠ 47) ∨ ∀ x ∈ t, x ≠ 47 := by
  intro t
  induction t with
  | nil => exact .inr (fun x hx => by cases hx)
  | cons c t ih =>
    by_cases hc : c = 47
    · subst hc; exact .inl ⟨[], t, rfl, fun x hx => by cases hx⟩
    · rcases ih with ⟨p, r, rfl, h⟩ | h
      · refine .inl ⟨c :: p, r, rfl, fun x hx => ?_⟩
        rcases List.mem_cons.1 hx with e | e
        · rw [e]; exact hc
        · exact h x e
      · refine .inr (fun x hx => ?_)
        rcases List.mem_cons.1 hx with e | e
        · rw [e]; exact hc
        · exact h x e
def prA (t : List UInt8) : List UInt8 := (Lib.cut t [47]).1
/-- the digits of the numerator -/
def prD (t : List UInt8) : List UInt8 := body (prA t)
/-- the digits of the denominator -/
def prB (t : List UInt8) : List UInt8 := if (Lib.cut t [47]).2.2 = true then (Lib.cut t [47]).2.1 else [49]
/-- its sign -/
def prN (t : List UInt8) : Bool := negB t
/-- is it a text of a fraction? -/
def prG (t : List UInt8) : Bool := isNum (prD t) && isNum (prB t) && !(prN t && prD t == [48])
def prX (t : List UInt8) : Int := if prN t then -((valN (prD t) : Nat) : Int) else ((valN (prD t) : Nat) : Int)
def prY (t : List UInt8) : Nat := valN (prB t)
theorem cutA (p r : List UInt8) (h : ∀ x ∈ p, x ≠ 47) : prA (p ++ 47 :: r) = p ∧ prB (p ++ 47 :: r) = r := by
  unfold prA prB; rw [cut1 p r h]; exact ⟨rfl, rfl⟩
theorem cutB (p : List UInt8) (h : ∀ x ∈ p, x ≠ 47) : prA p = p ∧ prB p = [49] := by
  unfold prA prB; rw [cut0 p h]; exact ⟨rfl, rfl⟩
theorem negA (t : List UInt8) : negB (prA t) = prN t := by
  unfold prN
  rcases split47 t with ⟨p, r, rfl, h⟩ | h
  · rw [(cutA p r h).1]
    cases p with
    | nil => rfl
    | cons c p => rfl
  · rw [(cutB t h).1]
theorem body_neg {t : List UInt8} (h : negB t = true) : t = 45 :: body t := by
  have e1 : body t = t.drop 1 := by unfold body; rw [h]; rfl
  unfold negB at h
  cases t with
  | nil => cases h
  | cons c r =>
    have : c = 45 := by simpa using h
    rw [e1, this]; rfl
theorem body_pos {t : List UInt8} (h : negB t = false) : body t = t := by unfold body; rw [h]; rfl
/-- the digits in terms of what lies behind the sign -/
theorem prD_cut (t : List UInt8) : (∃ p r, body t = p ++ 47 :: r ∧ (∀ x ∈ p, x ≠ 47) ∧ prD t = p ∧ prB t = r) ∨ ((∀ x ∈ body t, x ≠ 47) ∧ prD t = body t ∧ prB t = [49]) := by
  cases hn : negB t with
  | true =>
    have e := body_neg hn
    rcases split47 (body t) with ⟨p, r, h1, h⟩ | h
    · left
      have h' : ∀ x ∈ (45 :: p : List UInt8), x ≠ 47 := fun x hx => by
        rcases List.mem_cons.1 hx with e | e
        · rw [e]; decide
        · exact h x e
      have hc := cutA (45 :: p) r h'
      have e2 : t = (45 :: p) ++ 47 :: r := by rw [e, h1]; rfl
      refine ⟨p, r, h1, h, ?_, ?_⟩
      · unfold prD; rw [e2, hc.1]; rfl
      · rw [e2]; exact hc.2
    · right
      have h' : ∀ x ∈ (45 :: body t : List UInt8), x ≠ 47 := fun x hx => by
        rcases List.mem_cons.1 hx with e | e
        · rw [e]; decide
        · exact h x e
      have hc := cutB (45 :: body t) h'
      rw [← e] at hc
      refine ⟨h, ?_, hc.2⟩
      unfold prD; rw [hc.1]
  | false =>
    have e := body_pos hn
    have hA := negA t
    unfold prN at hA
    rw [hn] at hA
    rcases split47 t with ⟨p, r, h1, h⟩ | h
    · left
      have hc := cutA p r h
      rw [← h1] at hc
      refine ⟨p, r, by rw [e]; exact h1, h, ?_, hc.2⟩
      unfold prD; rw [body_pos hA, hc.1]
    · right
      have hc := cutB t h
      refine ⟨by rw [e]; exact h, ?_, hc.2⟩
      unfold prD; rw [body_pos hA, hc.1, e]
theorem getD_ne {p : List UInt8} (h : ∀ x ∈ p, x ≠ 47) {i : Nat} (hi : i < p.length) (r : List UInt8) : (p ++ r)[i]? ≠ some 47 := by
  rw [List.getElem?_append_left hi, List.getElem?_eq_getElem hi]
  intro e
  injection e with e
  exact h _ (List.getElem_mem hi) e
/-- how the reference's loop finds them -/
theorem pr_loop (t : List UInt8) : ∃ k, k ≤ (body t).length ∧ (∀ i, i < k → (body t)[i]? ≠ some 47) ∧
    ((k < (body t).length ∧ (body t)[k]? = some 47 ∧ prD t = (body t).take k ∧ prB t = (body t).drop (k + 1)) ∨ (k = (body t).length ∧ prD t = body t ∧ prB t = [49])) := by
  rcases prD_cut t with ⟨p, r, h1, h, h2, h3⟩ | ⟨h, h2, h3⟩
  · have hl : (body t).length = p.length + (r.length + 1) := by rw [h1, List.length_append, List.length_cons]
    refine ⟨p.length, by omega, fun i hi => by rw [h1]; exact getD_ne h hi _, .inl ⟨by omega, ?_, ?_, ?_⟩⟩
    · rw [h1, List.getElem?_append_right (Nat.le_refl _), Nat.sub_self]; rfl
    · rw [h2, h1, List.take_left]
    · rw [h3, h1, ← List.drop_drop, List.drop_left]; rfl
  · refine ⟨(body t).length, Nat.le_refl _, fun i hi => ?_, .inr ⟨rfl, h2, h3⟩⟩
    rw [← List.append_nil (body t)]
    exact getD_ne h hi _
theorem body_le (t : List UInt8) : (body t).length ≤ t.length := by
  unfold body
  split
  · rw [List.length_drop]; omega
  · exact Nat.le_refl _
theorem pr_len (t : List UInt8) : (prD t).length ≤ t.length ∧ (prB t).length ≤ t.length + 1 := by
  have hb := body_le t
  obtain ⟨k, hk, _, h⟩ := pr_loop t
  rcases h with ⟨_, _, h1, h2⟩ | ⟨_, h1, h2⟩
  · rw [h1, h2, List.length_take, List.length_drop]; omega
  · rw [h1, h2]
    refine ⟨hb, ?_⟩
    show 1 ≤ _
    omega
theorem pr_short (t : List UInt8) : (prB t).length ≤ max t.length 1 := by
  have hb := body_le t
  obtain ⟨k, hk, _, h⟩ := pr_loop t
  rcases h with ⟨_, _, h1, h2⟩ | ⟨_, h1, h2⟩
  · rw [h2, List.length_drop]; omega
  · rw [h2]; show 1 ≤ _; omega
theorem num_of {t : List UInt8} (h : t.all digC = true) : isNum t = (t == [48] || (!t.isEmpty && t.head? != some 48)) := by unfold isNum; rw [h]; rfl
theorem isNum_all {t : List UInt8} (h : isNum t = true) : t.all digC = true := by
  unfold isNum at h
  rw [Bool.and_eq_true] at h
  exact h.1
end Kt
/-- what Parse hands back when it refuses -/
def PBad (c : Int) (W : World) (e : Ending) (W' : World) : Prop := e = .returned (.tuple #[ratV false none 0 0 false none 0 0, .int .i64 c]) ∧ Below W.heap.size W W'
/-- what both Parse make of a text -/
def PR (t : List UInt8) (W : World) (e : Ending) (W' : World) : Prop :=
  if Kt.prG t = false then PBad 6 W e W' else if Kt.prY t = 0 then PBad 3 W e W' else GRc (Rat.divInt (Kt.prX t) (Kt.prY t : Int)) 100 W e W'
theorem PR.bad {t : List UInt8} (h : Kt.prG t = false) {W W' : World} {e : Ending} (hp : PBad 6 W e W') : PR t W e W' := by unfold PR; rw [if_pos h]; exact hp
theorem PR.zero {t : List UInt8} (h : Kt.prG t = true) (h0 : Kt.prY t = 0) {W W' : World} {e : Ending} (hp : PBad 3 W e W') : PR t W e W' := by unfold PR; rw [if_neg (by rw [h]; decide), if_pos h0]; exact hp
theorem PR.ok {t : List UInt8} (h : Kt.prG t = true) (h0 : Kt.prY t ≠ 0) {W W' : World} {e : Ending} (hp : GRc (Rat.divInt (Kt.prX t) (Kt.prY t : Int)) 100 W e W') : PR t W e W' := by unfold PR; rw [if_neg (by rw [h]; decide), if_neg h0]; exact hp
theorem pr_false {t : List UInt8} (h : Kt.isNum (Kt.prD t) = false ∨ Kt.isNum (Kt.prB t) = false ∨ (Kt.prN t && Kt.prD t == [48]) = true) : Kt.prG t = false := by
  unfold Kt.prG
  rcases h with h | h | h
  · rw [h]; rfl
  · rw [h, Bool.and_false]; rfl
  · rw [h, Bool.not_true, Bool.and_false]
theorem pr_true {t : List UInt8} (h1 : Kt.isNum (Kt.prD t) = true) (h2 : Kt.isNum (Kt.prB t) = true) (h3 : (Kt.prN t && Kt.prD t == [48]) = false) : Kt.prG t = true := by
  unfold Kt.prG; rw [h1, h2, h3]; rfl
/-- the package's Parse -/
theorem pparse (s : ByteArray) (hs : s.size ≤ 99) (w : World) (mx : Mx w) : Calls Tryz.prog 9 #[.string s] w (PR (bs s) w) := by
  obtain ⟨hl1, hl2⟩ := Kt.pr_len (bs s)
  have hlen := bs_length s
  obtain ⟨a, b, dv, hcut⟩ : ∃ a b dv, Lib.cut (bs s) [47] = (a, b, dv) := ⟨_, _, _, rfl⟩
  have eA : Kt.prA (bs s) = a := by unfold Kt.prA; rw [hcut]
  have eB : Kt.prB (bs s) = if dv = true then b else [49] := by unfold Kt.prB; rw [hcut]
  have eN : Kt.negB a = Kt.prN (bs s) := by rw [← eA]; exact Kt.negA _
  have eD : Kt.body a = Kt.prD (bs s) := by rw [← eA]; rfl
  cases h1 : Kt.isNum (Kt.prD (bs s)) with
  | false =>
    refine Calls.mono ?_ (fun e w' h => PR.bad (pr_false (.inl h1)) h)
    cases dv with
    | true => exact parse_bad1d (by omega) hcut eD eN eB.symm h1 (by omega) (by omega) w mx
    | false => exact parse_bad1n (by omega) hcut eD eN eB.symm h1 (by omega) (by omega) w mx
  | true =>
    cases h2 : Kt.isNum (Kt.prB (bs s)) with
    | false =>
      refine Calls.mono ?_ (fun e w' h => PR.bad (pr_false (.inr (.inl h2))) h)
      cases dv with
      | true => exact parse_bad2d (by omega) hcut eD eN eB.symm h1 h2 (by omega) (by omega) w mx
      | false => exact parse_bad2n (by omega) hcut eD eN eB.symm h1 h2 (by omega) (by omega) w mx
    | true =>
      cases h3 : (Kt.prN (bs s) && Kt.prD (bs s) == [48]) with
      | true =>
        refine Calls.mono ?_ (fun e w' h => PR.bad (pr_false (.inr (.inr h3))) h)
        rw [Bool.and_eq_true] at h3
        cases dv with
        | true => exact parse_bad3d (by omega) hcut eD (eN.trans h3.1) eB.symm h1 h2 h3.2 (by omega) (by omega) w mx
        | false => exact parse_bad3n (by omega) hcut eD (eN.trans h3.1) eB.symm h1 h2 h3.2 (by omega) (by omega) w mx
      | false =>
        have hG := pr_true h1 h2 h3
        by_cases hy : Kt.prY (bs s) = 0
        · refine Calls.mono ?_ (fun e w' h => PR.zero hG hy h)
          cases dv with
          | true =>
            cases hN : Kt.prN (bs s) with
            | true => exact parse_okdm0 (by omega) hcut eD (eN.trans hN) eB.symm h1 h2 (by rw [hN, Bool.true_and] at h3; exact h3) hy (by omega) (by omega) w mx
            | false => exact parse_okdp0 (by omega) hcut eD (eN.trans hN) eB.symm h1 h2 hy (by omega) (by omega) w mx
          | false =>
            exfalso
            unfold Kt.prY at hy
            rw [eB, if_neg (by decide)] at hy
            exact absurd hy (by decide)
        · refine Calls.mono ?_ (fun e w' h => PR.ok hG hy h)
          unfold Kt.prX Kt.prY
          cases hN : Kt.prN (bs s) with
          | true =>
            cases dv with
            | true => exact parse_okdm1 (by omega) hcut eD (eN.trans hN) eB.symm h1 h2 (by rw [hN, Bool.true_and] at h3; exact h3) hy (by omega) (by omega) w mx
            | false => exact parse_oknm1 (by omega) hcut eD (eN.trans hN) eB.symm h1 h2 (by rw [hN, Bool.true_and] at h3; exact h3) hy (by omega) (by omega) w mx
          | false =>
            cases dv with
            | true => exact parse_okdp1 (by omega) hcut eD (eN.trans hN) eB.symm h1 h2 hy (by omega) (by omega) w mx
            | false => exact parse_oknp1 (by omega) hcut eD (eN.trans hN) eB.symm h1 h2 hy (by omega) (by omega) w mx
end Go.Proofs.YtkpomjdablopaaaGreatDoor
/- Walks of package rational: Divide. -/
namespace Go.Proofs.YtkpomjdablopaaaGreatDoor
open Go.RowKit
set_option linter.unusedVariables false

end Go.Proofs.YtkpomjdablopaaaGreatDoor
/- Walks of package rational: Compare. -/
namespace Go.Proofs.YtkpomjdablopaaaGreatDoor
open Go.RowKit
set_option linter.unusedVariables false

end Go.Proofs.YtkpomjdablopaaaGreatDoor
/- Walks of package rational: Floor. -/
namespace Go.Proofs.YtkpomjdablopaaaGreatDoor
open Go.RowKit
set_option linter.unusedVariables false

end Go.Proofs.YtkpomjdablopaaaGreatDoor
