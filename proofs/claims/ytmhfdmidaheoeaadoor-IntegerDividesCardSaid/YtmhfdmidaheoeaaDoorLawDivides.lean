/- The law IntegerDivides, walked. -/
import Derived.Test.YtmhfdmidaheoeaaDoorLg
namespace Go.Proofs.YtmhfdmidaheoeaaDoor
open Go.RowKit
set_option linter.unusedVariables false
set_option linter.unusedSimpArgs false

theorem cn_zero (W : World) {n : Nat} : Cn W false none 0 [] 0 n := ⟨⟨Sl.nil _ _, rfl, Nat.zero_le _⟩, rfl, by rw [show (0 : Int).natAbs = 0 from rfl, Kn.dig_zero]⟩

set_option maxRecDepth 100000 in
set_option maxHeartbeats 8000000 in
theorem divides_walk (nx : Bool) (A : Option Addr) (ca : Nat) (xs : List Nat) (ny : Bool) (B : Option Addr) (cb : Nat) (ys : List Nat) (w : World) (hx : Sl w w.heap.size A ca xs) (hy : Sl w w.heap.size B cb ys) (ht : Tabs w) :
    Calls Tryd.prog 3 #[intV nx A xs.length ca, intV ny B ys.length cb] w fun e w' => e = .returned (.bool true) ∧ Below w.heap.size w w' := by
  unfold intV
  obtain ⟨x, hxv⟩ : ∃ x : Int, x = Kn.iv nx xs := ⟨_, rfl⟩
  obtain ⟨y, hyv⟩ : ∃ y : Int, y = Kn.iv ny ys := ⟨_, rfl⟩
  have HXV := Lib.hid hxv.symm
  have HYV := Lib.hid hyv.symm
  clear hxv hyv
  go_enter Tryd.func3, Tryd.ntmps3
  go_wp2_with fail
  have TX : Two ((w.alloc (.cells #[.bool nx, .slice A xs.length ca] 24)).alloc (.cells #[.bool ny, .slice B ys.length cb] 24)) w.heap.size (.bool nx) (.slice A xs.length ca) := (Two.new_ _ _ _ _).alloc _
  have TY : Two ((w.alloc (.cells #[.bool nx, .slice A xs.length ca] 24)).alloc (.cells #[.bool ny, .slice B ys.length cb] 24)) (w.heap.size + 1) (.bool ny) (.slice B ys.length cb) := by
    have := Two.new_ (w.alloc (.cells #[.bool nx, .slice A xs.length ca] 24)) (.bool ny) (.slice B ys.length cb) 24
    rwa [World.size_alloc] at this
  have bel : Below w.heap.size w ((w.alloc (.cells #[.bool nx, .slice A xs.length ca] 24)).alloc (.cells #[.bool ny, .slice B ys.length cb] 24)) := ((Below.refl _ _).alloc (Nat.le_refl _) _).alloc (by simp) _
  revert TX TY bel
  generalize (w.alloc (.cells #[.bool nx, .slice A xs.length ca] 24)).alloc (.cells #[.bool ny, .slice B ys.length cb] 24) = w1
  intro TX TY bel
  refine (known_ok _ (ht.below bel)).mono ?_
  rintro e w2 ⟨rfl, hb⟩
  replace TX := TX.below hb TX.lt
  replace TY := TY.below hb TY.lt
  replace bel := bel.trans (hb.mono bel.size)
  clear hb
  have x0 := TX.c0
  have x1 := TX.c1
  have y0 := TY.c0
  have y1 := TY.c1
  rcases Decidable.em (¬ xs.length ≤ 10) with hxl | hxl
  · have HL := Lib.hid hxl
    clear hxl
    go_wp2_with fail
    refine (gshort_f _ HL.out).mono ?_
    rintro e w' ⟨rfl, hb⟩
    clear x0 x1 y0 y1
    replace TX := TX.below hb TX.lt
    replace TY := TY.below hb TY.lt
    replace bel := bel.trans (hb.mono bel.size)
    clear hb
    go_wp2_with fail
    go_ret
    exact ⟨rfl, bel⟩
  replace hxl : xs.length ≤ 10 := by omega
  rcases Decidable.em (¬ ys.length ≤ 10) with hyl | hyl
  · have HL := Lib.hid hyl
    clear hyl
    go_wp2_with fail
    refine (gshort_t _ hxl).mono ?_
    rintro e w' ⟨rfl, hb⟩
    clear x0 x1 y0 y1
    replace TX := TX.below hb TX.lt
    replace TY := TY.below hb TY.lt
    replace bel := bel.trans (hb.mono bel.size)
    clear hb
    have x0 := TX.c0
    have x1 := TX.c1
    have y0 := TY.c0
    have y1 := TY.c1
    go_wp2_with fail
    refine (gshort_f _ HL.out).mono ?_
    rintro e w' ⟨rfl, hb⟩
    clear x0 x1 y0 y1
    replace TX := TX.below hb TX.lt
    replace TY := TY.below hb TY.lt
    replace bel := bel.trans (hb.mono bel.size)
    clear hb
    go_wp2_with fail
    go_ret
    exact ⟨rfl, bel⟩
  replace hyl : ys.length ≤ 10 := by omega
  go_wp2_with fail
  refine (gshort_t _ hxl).mono ?_
  rintro e w' ⟨rfl, hb⟩
  clear x0 x1 y0 y1
  replace TX := TX.below hb TX.lt
  replace TY := TY.below hb TY.lt
  replace bel := bel.trans (hb.mono bel.size)
  clear hb
  have x0 := TX.c0
  have x1 := TX.c1
  have y0 := TY.c0
  have y1 := TY.c1
  go_wp2_with fail
  refine (gshort_t _ hyl).mono ?_
  rintro e w' ⟨rfl, hb⟩
  clear x0 x1 y0 y1
  replace TX := TX.below hb TX.lt
  replace TY := TY.below hb TY.lt
  replace bel := bel.trans (hb.mono bel.size)
  clear hb
  have x0 := TX.c0
  have x1 := TX.c1
  have y0 := TY.c0
  have y1 := TY.c1
  have BX : Bv _ w.heap.size x 10 nx A ca xs := ⟨TX, (hx.below bel).more bel.size, HXV.out, hxl⟩
  have BY : Bv _ (w.heap.size + 1) y 10 ny B cb ys := ⟨TY, (hy.below bel).more bel.size, HYV.out, hyl⟩
  clear TX TY hx hy hxl hyl HXV HYV
  clear x0 x1 y0 y1
  rcases Decidable.em (y = 0) with hy0 | hy0
  · have bx0 := BX.t.c0
    have bx1 := BX.t.c1
    have by0 := BY.t.c0
    have by1 := BY.t.c1
    go_wp2_with fail
    refine (gdivz BY.v hy0 (by decide)).mono ?_
    rintro e w3 ⟨rfl, hb⟩
    clear bx0 bx1 by0 by1
    replace BX := BX.below hb
    replace BY := BY.below hb
    replace bel := bel.trans (hb.mono bel.size)
    clear hb
    have BQ : Bi ((w3.alloc (.cells #[.bool false, .slice none 0 0] 24)).alloc (.cells #[.bool false, .slice none 0 0] 24)) w3.heap.size 0 10 false none 0 [] := (Bi.new_ (cn_zero _) _).alloc _
    have BR : Bi ((w3.alloc (.cells #[.bool false, .slice none 0 0] 24)).alloc (.cells #[.bool false, .slice none 0 0] 24)) (w3.heap.size + 1) 0 10 false none 0 [] := Bi.new2 (cn_zero _) _ _
    replace BX := (BX.alloc (.cells #[.bool false, .slice none 0 0] 24)).alloc (.cells #[.bool false, .slice none 0 0] 24)
    replace BY := (BY.alloc (.cells #[.bool false, .slice none 0 0] 24)).alloc (.cells #[.bool false, .slice none 0 0] 24)
    replace bel := (bel.alloc bel.size (.cells #[.bool false, .slice none 0 0] 24)).alloc (by simp; have := bel.size; omega) (.cells #[.bool false, .slice none 0 0] 24)
    have bx0 := BX.t.c0
    have bx1 := BX.t.c1
    have by0 := BY.t.c0
    have by1 := BY.t.c1
    go_wp2_with fail
    clear bx0 bx1 by0 by1
    generalize ((w3.alloc (.cells #[.bool false, .slice none 0 0] 24)).alloc (.cells #[.bool false, .slice none 0 0] 24)) = w4 at BX BY BQ BR bel ⊢
    generalize w3.heap.size = g1 at BX BY BQ BR bel ⊢
    refine (grdivz BX.v BY.v hy0 (by decide) (by decide)).mono ?_
    rintro e w5 ⟨rfl, hb⟩
    replace BX := BX.below hb
    replace BY := BY.below hb
    replace BQ := BQ.below hb
    replace BR := BR.below hb
    replace bel := bel.trans (hb.mono bel.size)
    clear hb
    have BA : Bi ((w5.alloc (.cells #[.bool false, .slice none 0 0] 24)).alloc (.cells #[.bool false, .slice none 0 0] 24)) w5.heap.size 0 10 false none 0 [] := (Bi.new_ (cn_zero _) _).alloc _
    have BB : Bi ((w5.alloc (.cells #[.bool false, .slice none 0 0] 24)).alloc (.cells #[.bool false, .slice none 0 0] 24)) (w5.heap.size + 1) 0 10 false none 0 [] := Bi.new2 (cn_zero _) _ _
    replace BX := (BX.alloc (.cells #[.bool false, .slice none 0 0] 24)).alloc (.cells #[.bool false, .slice none 0 0] 24)
    replace BY := (BY.alloc (.cells #[.bool false, .slice none 0 0] 24)).alloc (.cells #[.bool false, .slice none 0 0] 24)
    replace BQ := (BQ.alloc (.cells #[.bool false, .slice none 0 0] 24)).alloc (.cells #[.bool false, .slice none 0 0] 24)
    replace BR := (BR.alloc (.cells #[.bool false, .slice none 0 0] 24)).alloc (.cells #[.bool false, .slice none 0 0] 24)
    replace bel := (bel.alloc bel.size (.cells #[.bool false, .slice none 0 0] 24)).alloc (by simp; have := bel.size; omega) (.cells #[.bool false, .slice none 0 0] 24)
    have bq0 := BQ.t.c0
    have bq1 := BQ.t.c1
    have ba0 := BA.t.c0
    have ba1 := BA.t.c1
    go_wp2_with fail
    clear bq0 bq1 ba0 ba1
    generalize ((w5.alloc (.cells #[.bool false, .slice none 0 0] 24)).alloc (.cells #[.bool false, .slice none 0 0] 24)) = w6 at BX BY BQ BR BA BB bel ⊢
    generalize w5.heap.size = g3 at BX BY BQ BR BA BB bel ⊢
    refine (gsame_t BQ.v BA.v (by decide) (by decide) rfl).mono ?_
    rintro e w' ⟨rfl, hb⟩
    replace BX := BX.below hb
    replace BY := BY.below hb
    replace BQ := BQ.below hb
    replace BR := BR.below hb
    replace BA := BA.below hb
    replace BB := BB.below hb
    replace bel := bel.trans (hb.mono bel.size)
    clear hb
    have br0 := BR.t.c0
    have br1 := BR.t.c1
    have bb0 := BB.t.c0
    have bb1 := BB.t.c1
    go_wp2_with fail
    clear br0 br1 bb0 bb1
    refine (gsame_t BR.v BB.v (by decide) (by decide) rfl).mono ?_
    rintro e w' ⟨rfl, hb⟩
    replace BX := BX.below hb
    replace BY := BY.below hb
    replace BQ := BQ.below hb
    replace BR := BR.below hb
    replace BA := BA.below hb
    replace BB := BB.below hb
    replace bel := bel.trans (hb.mono bel.size)
    clear hb
    have by0 := BY.t.c0
    have by1 := BY.t.c1
    go_wp2_with fail
    clear by0 by1
    refine (grsign BY.v (by decide)).mono ?_
    rw [hy0]
    rintro e w' ⟨rfl, hb⟩
    replace BX := BX.below hb
    replace BY := BY.below hb
    replace BQ := BQ.below hb
    replace BR := BR.below hb
    replace BA := BA.below hb
    replace BB := BB.below hb
    replace bel := bel.trans (hb.mono bel.size)
    clear hb
    have g0 : ((0 : Int).sign == 0) = true := rfl
    have bq0 := BQ.t.c0
    have bq1 := BQ.t.c1
    go_wp2_with fail
    clear bq0 bq1
    refine (gsame_t BQ.v (cn_zero (n := 10) _) (by decide) (by decide) rfl).mono ?_
    rintro e w' ⟨rfl, hb⟩
    replace BX := BX.below hb
    replace BY := BY.below hb
    replace BQ := BQ.below hb
    replace BR := BR.below hb
    replace BA := BA.below hb
    replace BB := BB.below hb
    replace bel := bel.trans (hb.mono bel.size)
    clear hb
    have br0 := BR.t.c0
    have br1 := BR.t.c1
    go_wp2_with fail
    clear br0 br1
    refine (gsame_t BR.v (cn_zero (n := 10) _) (by decide) (by decide) rfl).mono ?_
    rintro e w' ⟨rfl, hb⟩
    replace BX := BX.below hb
    replace BY := BY.below hb
    replace BQ := BQ.below hb
    replace BR := BR.below hb
    replace BA := BA.below hb
    replace BB := BB.below hb
    replace bel := bel.trans (hb.mono bel.size)
    clear hb
    go_wp2_with fail
    go_ret
    exact ⟨rfl, bel⟩
  · have HDQ := Lib.hid (show x.fdiv y * y + x.fmod y = x from fm_eq x y)
    have HRA := Lib.hid (fm_abs (x := x) hy0)
    have HRS : Hid (x.fmod y ≠ 0 → (x.fmod y).sign = y.sign) := Lib.hid (fm_sign hy0)
    have HGD := Lib.hid (fun (W : World) (h1 : Iv W nx A ca xs x 10) (h2 : Iv W ny B cb ys y 10) => gdivide h1 h2 hy0 (by decide) (by decide))
    have HGR := Lib.hid (fun (W : World) (h1 : Iv W nx A ca xs x 10) (h2 : Iv W ny B cb ys y 10) => grdivide h1 h2 hy0 (by decide) (by decide))
    revert HDQ HRA HRS HGD HGR
    generalize x.fdiv y = qz
    generalize x.fmod y = rz
    intro HDQ HRA HRS HGD HGR
    have bx0 := BX.t.c0
    have bx1 := BX.t.c1
    have by0 := BY.t.c0
    have by1 := BY.t.c1
    go_wp2_with fail
    refine (HGD.out _ BX.v BY.v).mono ?_
    rintro e w3 ⟨p1, A1, c1, l1, p2, A2, c2, l2, rfl, S1, S2, hb⟩
    clear bx0 bx1 by0 by1
    replace BX := BX.below hb
    replace BY := BY.below hb
    replace bel := bel.trans (hb.mono bel.size)
    clear hb
    have BQ : Bi ((w3.alloc (.cells #[.bool p1, .slice A1 l1.length c1] 24)).alloc (.cells #[.bool p2, .slice A2 l2.length c2] 24)) w3.heap.size qz 10 p1 A1 c1 l1 := (Bi.new_ S1 _).alloc _
    have BR : Bi ((w3.alloc (.cells #[.bool p1, .slice A1 l1.length c1] 24)).alloc (.cells #[.bool p2, .slice A2 l2.length c2] 24)) (w3.heap.size + 1) rz 10 p2 A2 c2 l2 := Bi.new2 S2 _ _
    replace BX := (BX.alloc (.cells #[.bool p1, .slice A1 l1.length c1] 24)).alloc (.cells #[.bool p2, .slice A2 l2.length c2] 24)
    replace BY := (BY.alloc (.cells #[.bool p1, .slice A1 l1.length c1] 24)).alloc (.cells #[.bool p2, .slice A2 l2.length c2] 24)
    replace bel := (bel.alloc bel.size (.cells #[.bool p1, .slice A1 l1.length c1] 24)).alloc (by simp; have := bel.size; omega) (.cells #[.bool p2, .slice A2 l2.length c2] 24)
    clear S1 S2
    have bx0 := BX.t.c0
    have bx1 := BX.t.c1
    have by0 := BY.t.c0
    have by1 := BY.t.c1
    go_wp2_with fail
    clear bx0 bx1 by0 by1
    generalize ((w3.alloc (.cells #[.bool p1, .slice A1 l1.length c1] 24)).alloc (.cells #[.bool p2, .slice A2 l2.length c2] 24)) = w4 at BX BY BQ BR bel ⊢
    generalize w3.heap.size = g1 at BX BY BQ BR bel ⊢
    refine (HGR.out _ BX.v BY.v).mono ?_
    rintro e w5 ⟨p3, A3, c3, l3, p4, A4, c4, l4, rfl, S1, S2, hb⟩
    replace BX := BX.below hb
    replace BY := BY.below hb
    replace BQ := BQ.below hb
    replace BR := BR.below hb
    replace bel := bel.trans (hb.mono bel.size)
    clear hb
    have BA : Bi ((w5.alloc (.cells #[.bool p3, .slice A3 l3.length c3] 24)).alloc (.cells #[.bool p4, .slice A4 l4.length c4] 24)) w5.heap.size qz 10 p3 A3 c3 l3 := (Bi.new_ S1 _).alloc _
    have BB : Bi ((w5.alloc (.cells #[.bool p3, .slice A3 l3.length c3] 24)).alloc (.cells #[.bool p4, .slice A4 l4.length c4] 24)) (w5.heap.size + 1) rz 10 p4 A4 c4 l4 := Bi.new2 S2 _ _
    replace BX := (BX.alloc (.cells #[.bool p3, .slice A3 l3.length c3] 24)).alloc (.cells #[.bool p4, .slice A4 l4.length c4] 24)
    replace BY := (BY.alloc (.cells #[.bool p3, .slice A3 l3.length c3] 24)).alloc (.cells #[.bool p4, .slice A4 l4.length c4] 24)
    replace BQ := (BQ.alloc (.cells #[.bool p3, .slice A3 l3.length c3] 24)).alloc (.cells #[.bool p4, .slice A4 l4.length c4] 24)
    replace BR := (BR.alloc (.cells #[.bool p3, .slice A3 l3.length c3] 24)).alloc (.cells #[.bool p4, .slice A4 l4.length c4] 24)
    replace bel := (bel.alloc bel.size (.cells #[.bool p3, .slice A3 l3.length c3] 24)).alloc (by simp; have := bel.size; omega) (.cells #[.bool p4, .slice A4 l4.length c4] 24)
    clear S1 S2
    have bq0 := BQ.t.c0
    have bq1 := BQ.t.c1
    have ba0 := BA.t.c0
    have ba1 := BA.t.c1
    go_wp2_with fail
    clear bq0 bq1 ba0 ba1
    generalize ((w5.alloc (.cells #[.bool p3, .slice A3 l3.length c3] 24)).alloc (.cells #[.bool p4, .slice A4 l4.length c4] 24)) = w6 at BX BY BQ BR BA BB bel ⊢
    generalize w5.heap.size = g3 at BX BY BQ BR BA BB bel ⊢
    refine (gsame_t BQ.v BA.v (by decide) (by decide) rfl).mono ?_
    rintro e w' ⟨rfl, hb⟩
    replace BX := BX.below hb
    replace BY := BY.below hb
    replace BQ := BQ.below hb
    replace BR := BR.below hb
    replace BA := BA.below hb
    replace BB := BB.below hb
    replace bel := bel.trans (hb.mono bel.size)
    clear hb
    have br0 := BR.t.c0
    have br1 := BR.t.c1
    have bb0 := BB.t.c0
    have bb1 := BB.t.c1
    go_wp2_with fail
    clear br0 br1 bb0 bb1
    refine (gsame_t BR.v BB.v (by decide) (by decide) rfl).mono ?_
    rintro e w7 ⟨rfl, hb⟩
    replace BX := BX.below hb
    replace BY := BY.below hb
    replace BQ := BQ.below hb
    replace BR := BR.below hb
    replace BA := BA.below hb
    replace BB := BB.below hb
    replace bel := bel.trans (hb.mono bel.size)
    clear hb
    clear BA BB
    have br0 := BR.t.c0
    have br1 := BR.t.c1
    go_wp2_with fail
    clear br0 br1
    refine (gsign BR.v.iv (by decide)).mono ?_
    rintro e w8 ⟨rfl, hb⟩
    replace BX := BX.below hb
    replace BY := BY.below hb
    replace BQ := BQ.below hb
    replace BR := BR.below hb
    replace bel := bel.trans (hb.mono bel.size)
    clear hb
    have HCM : Hid (cmpI (rz.natAbs : Int) (y.natAbs : Int) < 0) := Lib.hid (by unfold cmpI; rw [if_pos (by have := HRA.out; omega)]; decide)
    obtain ⟨sr, hsr⟩ : ∃ s, Hid (s = rz.sign) := ⟨_, Lib.hid rfl⟩
    obtain ⟨sy, hsy⟩ : ∃ s, Hid (s = y.sign) := ⟨_, Lib.hid rfl⟩
    obtain ⟨cm, hcm⟩ : ∃ s, Hid (s = cmpI (rz.natAbs : Int) (y.natAbs : Int)) := ⟨_, Lib.hid rfl⟩
    rw [← hcm.out] at HCM
    have gcm : decide (cm < 0) = true := decide_eq_true HCM.out
    have gcm2 : cm < 0 := HCM.out
    have HSY := Lib.hid (fun (W : World) (h : Iv W ny B cb ys y 10) => (by have := gsign h (by decide); rwa [← hsy.out] at this : Calls Tryd.prog 12 #[.agg #[.bool ny, .slice B ys.length cb]] W fun e w' => e = .returned (.int .i64 sy) ∧ Below W.heap.size W w'))
    have HCP := Lib.hid (fun (W : World) (p q : Bool) (C D : Option Addr) (c d : Nat) (k m : List Nat) (h1 : Cn W p C c k (rz.natAbs : Int) 10) (h2 : Cn W q D d m (y.natAbs : Int) 10) => (by have := gcmp h1.iv h2.iv (by decide) (by decide); rwa [← hcm.out] at this : Calls Tryd.prog 16 #[.agg #[.bool p, .slice C k.length c], .agg #[.bool q, .slice D m.length d]] W fun e w' => e = .returned (.int .i64 cm) ∧ Below W.heap.size W w'))
    rw [← hsr.out]
    clear hcm
    rcases Decidable.em (rz = 0) with hr0 | hr0
    · have gs : (sr == 0) = true := by rw [hsr.out, hr0]; rfl
      have gs2 : sr = 0 := by rw [hsr.out, hr0]; rfl
      have HH := Lib.hid hr0
      clear hr0 gs2
      go_wp2_with fail
      replace BX := BX.drew
      replace BY := BY.drew
      replace BQ := BQ.drew
      replace BR := BR.drew
      replace bel := bDrew1 bel
      refine wp_region_held_drew (S := (fun w' => w'.cell? ⟨w.heap.size, 0, none⟩ = some (.bool nx) ∧ w'.cell? ⟨w.heap.size, 1, none⟩ = some (.slice A xs.length ca) ∧ w'.cell? ⟨w.heap.size + 1, 0, none⟩ = some (.bool ny) ∧ w'.cell? ⟨w.heap.size + 1, 1, none⟩ = some (.slice B ys.length cb) ∧ w'.cell? ⟨g1, 0, none⟩ = some (.bool p1) ∧ w'.cell? ⟨g1, 1, none⟩ = some (.slice A1 l1.length c1) ∧ w'.cell? ⟨g1 + 1, 0, none⟩ = some (.bool p2) ∧ w'.cell? ⟨g1 + 1, 1, none⟩ = some (.slice A2 l2.length c2))) (by kernel_rfl) (⟨BX.t.c0, BX.t.c1, BY.t.c0, BY.t.c1, BQ.t.c0, BQ.t.c1, BR.t.c0, BR.t.c1⟩) (fun hHeld => ?_)
      refine wpAnyH_take (i := 0) (oi := _) (v := ?_) rfl (by kernel_rfl) (by kernel_rfl) (by kernel_rfl) (fun _ _ _ h => h) (Or.inl ⟨by rfl, ?hy0⟩) (by assumption) ?_
      case hy0 =>
        intro w hSw
        (try dsimp only at hSw)
        go_simp
        try with_reducible rfl
      try simp only [Act.put, List.getElem_toArray, List.getElem_cons_succ, List.getElem_cons_zero, List.setIfInBounds_toArray, List.set_cons_zero, List.set_cons_succ]
      refine wpAnyH_take (i := 1) (oi := _) (v := ?_) rfl (by kernel_rfl) (by kernel_rfl) (by kernel_rfl) (fun _ _ _ h => h) (Or.inl ⟨by rfl, ?hy1⟩) (by assumption) ?_
      case hy1 =>
        intro w hSw
        (try dsimp only at hSw)
        go_simp
        try with_reducible rfl
      try simp only [Act.put, List.getElem_toArray, List.getElem_cons_succ, List.getElem_cons_zero, List.setIfInBounds_toArray, List.set_cons_zero, List.set_cons_succ]
      refine wpAnyH_take (i := 3) (oi := _) (v := ?_) rfl (by kernel_rfl) (by kernel_rfl) (by kernel_rfl) (fun _ _ _ h => h) (Or.inl ⟨by rfl, ?hy3⟩) (by assumption) ?_
      case hy3 =>
        intro w hSw
        (try dsimp only at hSw)
        go_simp
        try with_reducible rfl
      try simp only [Act.put, List.getElem_toArray, List.getElem_cons_succ, List.getElem_cons_zero, List.setIfInBounds_toArray, List.set_cons_zero, List.set_cons_succ]
      refine wpAnyH_take (i := 5) (oi := _) (v := ?_) rfl (by kernel_rfl) (by kernel_rfl) (by kernel_rfl) (fun _ _ _ h => h) (Or.inl ⟨by rfl, ?hy5⟩) (by assumption) ?_
      case hy5 =>
        intro w hSw
        (try dsimp only at hSw)
        go_simp
        try with_reducible rfl
      try simp only [Act.put, List.getElem_toArray, List.getElem_cons_succ, List.getElem_cons_zero, List.setIfInBounds_toArray, List.set_cons_zero, List.set_cons_succ]
      refine wpAnyH_ready (rs := [2]) (by kernel_rfl) (by simp) ?_
      refine AllReadyH.cons (o := _) rfl (fun K hK => ?_) AllReadyH.nil
      clear hHeld
      go_simp
      (go_at_call 14; refine (gmul BQ.v.iv BY.v (by decide) (by decide)).mono ?_; rintro e w' ⟨p5, A5, c5, l5, rfl, S1, hb⟩; replace BX := BX.below hb; replace BY := BY.below hb; replace BQ := BQ.below hb; replace BR := BR.below hb; (try (replace S1 := S1.below hb)); (try (replace S2 := S2.below hb)); (try (replace S3 := S3.below hb)); (try (replace S4 := S4.below hb)); (try (replace S5 := S5.below hb)); replace bel := bel.trans (hb.mono bel.size); clear hb)
      refine hK.out _ _ ?hk2 (fun hHeld => ?_)
      case hk2 =>
        (try dsimp only)
        exact ⟨BX.t.c0, BX.t.c1, BY.t.c0, BY.t.c1, BQ.t.c0, BQ.t.c1, BR.t.c0, BR.t.c1⟩
      clear hK K
      try simp only [Act.put, List.getElem_toArray, List.getElem_cons_succ, List.getElem_cons_zero, List.setIfInBounds_toArray, List.set_cons_zero, List.set_cons_succ]
      refine wpAnyH_ready (rs := [4]) (by kernel_rfl) (by simp) ?_
      refine AllReadyH.cons (o := _) rfl (fun K hK => ?_) AllReadyH.nil
      clear hHeld
      go_simp
      (go_at_call 13; refine (gadd S1.iv BR.v.iv (by decide) (by decide)).mono ?_; rintro e w' ⟨p6, A6, c6, l6, rfl, S2, hb⟩; replace BX := BX.below hb; replace BY := BY.below hb; replace BQ := BQ.below hb; replace BR := BR.below hb; (try (replace S1 := S1.below hb)); (try (replace S2 := S2.below hb)); (try (replace S3 := S3.below hb)); (try (replace S4 := S4.below hb)); (try (replace S5 := S5.below hb)); replace bel := bel.trans (hb.mono bel.size); clear hb)
      refine hK.out _ _ ?hk4 (fun hHeld => ?_)
      case hk4 =>
        (try dsimp only)
        exact ⟨BX.t.c0, BX.t.c1, BY.t.c0, BY.t.c1, BQ.t.c0, BQ.t.c1, BR.t.c0, BR.t.c1⟩
      clear hK K
      try simp only [Act.put, List.getElem_toArray, List.getElem_cons_succ, List.getElem_cons_zero, List.setIfInBounds_toArray, List.set_cons_zero, List.set_cons_succ]
      refine wpAnyH_ready (rs := [6]) (by kernel_rfl) (by simp) ?_
      refine AllReadyH.cons (o := _) rfl (fun K hK => ?_) AllReadyH.nil
      clear hHeld
      go_simp
      (go_at_call 15; refine (gclean BX.v (by decide)).mono ?_; rintro e w' ⟨p7, A7, c7, l7, rfl, S3, hb⟩; replace BX := BX.below hb; replace BY := BY.below hb; replace BQ := BQ.below hb; replace BR := BR.below hb; (try (replace S1 := S1.below hb)); (try (replace S2 := S2.below hb)); (try (replace S3 := S3.below hb)); (try (replace S4 := S4.below hb)); (try (replace S5 := S5.below hb)); replace bel := bel.trans (hb.mono bel.size); clear hb)
      refine hK.out _ _ ?hk6 (fun hHeld => ?_)
      case hk6 =>
        (try dsimp only)
        exact ⟨BX.t.c0, BX.t.c1, BY.t.c0, BY.t.c1, BQ.t.c0, BQ.t.c1, BR.t.c0, BR.t.c1⟩
      clear hK K
      try simp only [Act.put, List.getElem_toArray, List.getElem_cons_succ, List.getElem_cons_zero, List.setIfInBounds_toArray, List.set_cons_zero, List.set_cons_succ]
      refine wpAnyH_ready (rs := [7]) (by kernel_rfl) (by simp) ?_
      refine AllReadyH.cons (o := _) rfl (fun K hK => ?_) AllReadyH.nil
      clear hHeld
      go_simp
      (go_at_call 10; refine (gsame_t S2 S3 (by decide) (by decide) HDQ.out).mono ?_; rintro e w' ⟨rfl, hb⟩; replace BX := BX.below hb; replace BY := BY.below hb; replace BQ := BQ.below hb; replace BR := BR.below hb; (try (replace S1 := S1.below hb)); (try (replace S2 := S2.below hb)); (try (replace S3 := S3.below hb)); (try (replace S4 := S4.below hb)); (try (replace S5 := S5.below hb)); replace bel := bel.trans (hb.mono bel.size); clear hb)
      refine hK.out _ _ ?hk7 (fun hHeld => ?_)
      case hk7 =>
        (try dsimp only)
        exact ⟨BX.t.c0, BX.t.c1, BY.t.c0, BY.t.c1, BQ.t.c0, BQ.t.c1, BR.t.c0, BR.t.c1⟩
      clear hK K
      try simp only [Act.put, List.getElem_toArray, List.getElem_cons_succ, List.getElem_cons_zero, List.setIfInBounds_toArray, List.set_cons_zero, List.set_cons_succ]
      refine wpAnyH_take (i := 8) (oi := _) (v := ?_) rfl (by kernel_rfl) (by kernel_rfl) (by kernel_rfl) (fun _ _ _ h => h) (Or.inl ⟨by rfl, ?hy8⟩) (by assumption) ?_
      case hy8 =>
        intro w hSw
        (try dsimp only at hSw)
        go_simp
        try with_reducible rfl
      try simp only [Act.put, List.getElem_toArray, List.getElem_cons_succ, List.getElem_cons_zero, List.setIfInBounds_toArray, List.set_cons_zero, List.set_cons_succ]
      refine wpAnyH_take (i := 9) (oi := _) (v := ?_) rfl (by kernel_rfl) (by kernel_rfl) (by kernel_rfl) (fun _ _ _ h => h) (Or.inl ⟨by rfl, ?hy9⟩) (by assumption) ?_
      case hy9 =>
        intro w hSw
        (try dsimp only at hSw)
        go_simp
        try with_reducible rfl
      try simp only [Act.put, List.getElem_toArray, List.getElem_cons_succ, List.getElem_cons_zero, List.setIfInBounds_toArray, List.set_cons_zero, List.set_cons_succ]
      refine wpAnyH_take (i := 10) (oi := _) (v := ?_) rfl (by kernel_rfl) (by kernel_rfl) (by kernel_rfl) (fun _ _ _ h => h) (Or.inl ⟨by rfl, ?hy10⟩) (by assumption) ?_
      case hy10 =>
        intro w hSw
        (try dsimp only at hSw)
        go_simp
        try with_reducible rfl
      try simp only [Act.put, List.getElem_toArray, List.getElem_cons_succ, List.getElem_cons_zero, List.setIfInBounds_toArray, List.set_cons_zero, List.set_cons_succ]
      refine wpAnyH_take (i := 11) (oi := _) (v := ?_) rfl (by kernel_rfl) (by kernel_rfl) (by kernel_rfl) (fun _ _ _ h => h) (Or.inl ⟨by rfl, ?hy11⟩) (by assumption) ?_
      case hy11 =>
        intro w hSw
        (try dsimp only at hSw)
        go_simp
        try with_reducible rfl
      try simp only [Act.put, List.getElem_toArray, List.getElem_cons_succ, List.getElem_cons_zero, List.setIfInBounds_toArray, List.set_cons_zero, List.set_cons_succ]
      refine wpAnyH_take (i := 12) (oi := _) (v := undef) rfl (by kernel_rfl) (by kernel_rfl) (by kernel_rfl) (fun _ _ _ h => h) (Or.inr ⟨by kernel_rfl, rfl⟩) (by assumption) ?_
      try simp only [Act.put, List.getElem_toArray, List.getElem_cons_succ, List.getElem_cons_zero, List.setIfInBounds_toArray, List.set_cons_zero, List.set_cons_succ]
      refine wpAnyH_take (i := 13) (oi := _) (v := undef) rfl (by kernel_rfl) (by kernel_rfl) (by kernel_rfl) (fun _ _ _ h => h) (Or.inr ⟨by kernel_rfl, rfl⟩) (by assumption) ?_
      try simp only [Act.put, List.getElem_toArray, List.getElem_cons_succ, List.getElem_cons_zero, List.setIfInBounds_toArray, List.set_cons_zero, List.set_cons_succ]
      refine wpAnyH_take (i := 14) (oi := _) (v := undef) rfl (by kernel_rfl) (by kernel_rfl) (by kernel_rfl) (fun _ _ _ h => h) (Or.inr ⟨by kernel_rfl, rfl⟩) (by assumption) ?_
      try simp only [Act.put, List.getElem_toArray, List.getElem_cons_succ, List.getElem_cons_zero, List.setIfInBounds_toArray, List.set_cons_zero, List.set_cons_succ]
      refine wpAnyH_take (i := 15) (oi := _) (v := undef) rfl (by kernel_rfl) (by kernel_rfl) (by kernel_rfl) (fun _ _ _ h => h) (Or.inr ⟨by kernel_rfl, rfl⟩) (by assumption) ?_
      try simp only [Act.put, List.getElem_toArray, List.getElem_cons_succ, List.getElem_cons_zero, List.setIfInBounds_toArray, List.set_cons_zero, List.set_cons_succ]
      refine wpAnyH_take (i := 16) (oi := _) (v := ?_) rfl (by kernel_rfl) (by kernel_rfl) (by kernel_rfl) (fun _ _ _ h => h) (Or.inl ⟨by rfl, ?hy16⟩) (by assumption) ?_
      case hy16 =>
        intro w hSw
        (try dsimp only at hSw)
        go_simp
        try with_reducible rfl
      try simp only [Act.put, List.getElem_toArray, List.getElem_cons_succ, List.getElem_cons_zero, List.setIfInBounds_toArray, List.set_cons_zero, List.set_cons_succ]
      refine wpAnyH_take (i := 17) (oi := _) (v := ?_) rfl (by kernel_rfl) (by kernel_rfl) (by kernel_rfl) (fun _ _ _ h => h) (Or.inl ⟨by rfl, ?hy17⟩) (by assumption) ?_
      case hy17 =>
        intro w hSw
        (try dsimp only at hSw)
        go_simp
        try with_reducible rfl
      try simp only [Act.put, List.getElem_toArray, List.getElem_cons_succ, List.getElem_cons_zero, List.setIfInBounds_toArray, List.set_cons_zero, List.set_cons_succ]
      refine wpAnyH_take (i := 18) (oi := _) (v := ?_) rfl (by kernel_rfl) (by kernel_rfl) (by kernel_rfl) (fun _ _ _ h => h) (Or.inl ⟨by rfl, ?hy18⟩) (by assumption) ?_
      case hy18 =>
        intro w hSw
        (try dsimp only at hSw)
        go_simp
        try with_reducible rfl
      try simp only [Act.put, List.getElem_toArray, List.getElem_cons_succ, List.getElem_cons_zero, List.setIfInBounds_toArray, List.set_cons_zero, List.set_cons_succ]
      refine wpAnyH_take (i := 19) (oi := _) (v := ?_) rfl (by kernel_rfl) (by kernel_rfl) (by kernel_rfl) (fun _ _ _ h => h) (Or.inl ⟨by rfl, ?hy19⟩) (by assumption) ?_
      case hy19 =>
        intro w hSw
        (try dsimp only at hSw)
        go_simp
        try with_reducible rfl
      try simp only [Act.put, List.getElem_toArray, List.getElem_cons_succ, List.getElem_cons_zero, List.setIfInBounds_toArray, List.set_cons_zero, List.set_cons_succ]
      refine wpAnyH_take (i := 21) (oi := _) (v := ?_) rfl (by kernel_rfl) (by kernel_rfl) (by kernel_rfl) (fun _ _ _ h => h) (Or.inl ⟨by rfl, ?hy21⟩) (by assumption) ?_
      case hy21 =>
        intro w hSw
        (try dsimp only at hSw)
        go_simp
        try with_reducible rfl
      try simp only [Act.put, List.getElem_toArray, List.getElem_cons_succ, List.getElem_cons_zero, List.setIfInBounds_toArray, List.set_cons_zero, List.set_cons_succ]
      refine wpAnyH_ready (rs := [20]) (by kernel_rfl) (by simp) ?_
      refine AllReadyH.cons (o := _) rfl (fun K hK => ?_) AllReadyH.nil
      clear hHeld
      go_simp
      (go_at_call 17; refine (gabs BR.v.iv (by decide)).mono ?_; rintro e w' ⟨p8, A8, c8, l8, rfl, S4, hb⟩; replace BX := BX.below hb; replace BY := BY.below hb; replace BQ := BQ.below hb; replace BR := BR.below hb; (try (replace S1 := S1.below hb)); (try (replace S2 := S2.below hb)); (try (replace S3 := S3.below hb)); (try (replace S4 := S4.below hb)); (try (replace S5 := S5.below hb)); replace bel := bel.trans (hb.mono bel.size); clear hb)
      refine hK.out _ _ ?hk20 (fun hHeld => ?_)
      case hk20 =>
        (try dsimp only)
        exact ⟨BX.t.c0, BX.t.c1, BY.t.c0, BY.t.c1, BQ.t.c0, BQ.t.c1, BR.t.c0, BR.t.c1⟩
      clear hK K
      try simp only [Act.put, List.getElem_toArray, List.getElem_cons_succ, List.getElem_cons_zero, List.setIfInBounds_toArray, List.set_cons_zero, List.set_cons_succ]
      refine wpAnyH_ready (rs := [22]) (by kernel_rfl) (by simp) ?_
      refine AllReadyH.cons (o := _) rfl (fun K hK => ?_) AllReadyH.nil
      clear hHeld
      go_simp
      (go_at_call 17; refine (gabs BY.v (by decide)).mono ?_; rintro e w' ⟨p9, A9, c9, l9, rfl, S5, hb⟩; replace BX := BX.below hb; replace BY := BY.below hb; replace BQ := BQ.below hb; replace BR := BR.below hb; (try (replace S1 := S1.below hb)); (try (replace S2 := S2.below hb)); (try (replace S3 := S3.below hb)); (try (replace S4 := S4.below hb)); (try (replace S5 := S5.below hb)); replace bel := bel.trans (hb.mono bel.size); clear hb)
      refine hK.out _ _ ?hk22 (fun hHeld => ?_)
      case hk22 =>
        (try dsimp only)
        exact ⟨BX.t.c0, BX.t.c1, BY.t.c0, BY.t.c1, BQ.t.c0, BQ.t.c1, BR.t.c0, BR.t.c1⟩
      clear hK K
      try simp only [Act.put, List.getElem_toArray, List.getElem_cons_succ, List.getElem_cons_zero, List.setIfInBounds_toArray, List.set_cons_zero, List.set_cons_succ]
      refine wpAnyH_ready (rs := [23]) (by kernel_rfl) (by simp) ?_
      refine AllReadyH.cons (o := _) rfl (fun K hK => ?_) AllReadyH.nil
      clear hHeld
      go_simp
      (go_at_call 16; refine (HCP.out _ _ _ _ _ _ _ _ _ S4 S5).mono ?_; rintro e w' ⟨rfl, hb⟩; replace BX := BX.below hb; replace BY := BY.below hb; replace BQ := BQ.below hb; replace BR := BR.below hb; (try (replace S1 := S1.below hb)); (try (replace S2 := S2.below hb)); (try (replace S3 := S3.below hb)); (try (replace S4 := S4.below hb)); (try (replace S5 := S5.below hb)); replace bel := bel.trans (hb.mono bel.size); clear hb)
      refine hK.out _ _ ?hk23 (fun hHeld => ?_)
      case hk23 =>
        (try dsimp only)
        exact ⟨BX.t.c0, BX.t.c1, BY.t.c0, BY.t.c1, BQ.t.c0, BQ.t.c1, BR.t.c0, BR.t.c1⟩
      clear hK K
      try simp only [Act.put, List.getElem_toArray, List.getElem_cons_succ, List.getElem_cons_zero, List.setIfInBounds_toArray, List.set_cons_zero, List.set_cons_succ]
      refine wpAnyH_take (i := 24) (oi := _) (v := ?_) rfl (by kernel_rfl) (by kernel_rfl) (by kernel_rfl) (fun _ _ _ h => h) (Or.inl ⟨by rfl, ?hy24⟩) (by assumption) ?_
      case hy24 =>
        intro w hSw
        (try dsimp only at hSw)
        go_simp
        try with_reducible rfl
      try simp only [Act.put, List.getElem_toArray, List.getElem_cons_succ, List.getElem_cons_zero, List.setIfInBounds_toArray, List.set_cons_zero, List.set_cons_succ]
      refine wpAnyH_take (i := 25) (oi := _) (v := ?_) rfl (by kernel_rfl) (by kernel_rfl) (by kernel_rfl) (fun _ _ _ h => h) (Or.inl ⟨by rfl, ?hy25⟩) (by assumption) ?_
      case hy25 =>
        intro w hSw
        (try dsimp only at hSw)
        go_simp
        try with_reducible rfl
      try simp only [Act.put, List.getElem_toArray, List.getElem_cons_succ, List.getElem_cons_zero, List.setIfInBounds_toArray, List.set_cons_zero, List.set_cons_succ]
      refine wpAnyH_take (i := 26) (oi := _) (v := ?_) rfl (by kernel_rfl) (by kernel_rfl) (by kernel_rfl) (fun _ _ _ h => h) (Or.inl ⟨by rfl, ?hy26⟩) (by assumption) ?_
      case hy26 =>
        intro w hSw
        (try dsimp only at hSw)
        go_simp
        try with_reducible rfl
      try simp only [Act.put, List.getElem_toArray, List.getElem_cons_succ, List.getElem_cons_zero, List.setIfInBounds_toArray, List.set_cons_zero, List.set_cons_succ]
      refine wpAnyH_done (by kernel_rfl) ?_ _
      go_wp2_with fail
      go_ret
      exact ⟨by first | rfl | simp, bel⟩
    · have gs : (sr == 0) = false := by rw [beq_eq_false_iff_ne, hsr.out]; exact fun h => hr0 (Int.sign_eq_zero_iff_zero.1 h)
      have gs3 : (sr == sy) = true := by rw [beq_iff_eq, hsr.out, hsy.out]; exact HRS.out hr0
      have HH := Lib.hid hr0
      clear hr0
      go_wp2_with fail
      replace BX := BX.drew
      replace BY := BY.drew
      replace BQ := BQ.drew
      replace BR := BR.drew
      replace bel := bDrew1 bel
      go_region_held3 (fun w' => w'.cell? ⟨w.heap.size, 0, none⟩ = some (.bool nx) ∧ w'.cell? ⟨w.heap.size, 1, none⟩ = some (.slice A xs.length ca) ∧ w'.cell? ⟨w.heap.size + 1, 0, none⟩ = some (.bool ny) ∧ w'.cell? ⟨w.heap.size + 1, 1, none⟩ = some (.slice B ys.length cb) ∧ w'.cell? ⟨g1, 0, none⟩ = some (.bool p1) ∧ w'.cell? ⟨g1, 1, none⟩ = some (.slice A1 l1.length c1) ∧ w'.cell? ⟨g1 + 1, 0, none⟩ = some (.bool p2) ∧ w'.cell? ⟨g1 + 1, 1, none⟩ = some (.slice A2 l2.length c2))
        (with_reducible exact ⟨BX.t.c0, BX.t.c1, BY.t.c0, BY.t.c1, BQ.t.c0, BQ.t.c1, BR.t.c0, BR.t.c1⟩)
        (first
          | (go_at_call 14; (with_reducible refine (gmul BQ.v.iv BY.v (by decide) (by decide)).mono ?_); rintro e w' ⟨p5, A5, c5, l5, rfl, S1, hb⟩; replace BX := BX.below hb; replace BY := BY.below hb; replace BQ := BQ.below hb; replace BR := BR.below hb; (try (replace S1 := S1.below hb)); (try (replace S2 := S2.below hb)); (try (replace S3 := S3.below hb)); (try (replace S4 := S4.below hb)); (try (replace S5 := S5.below hb)); replace bel := bel.trans (hb.mono bel.size); clear hb)
          | (go_at_call 13; (with_reducible refine (gadd S1.iv BR.v.iv (by decide) (by decide)).mono ?_); rintro e w' ⟨p6, A6, c6, l6, rfl, S2, hb⟩; replace BX := BX.below hb; replace BY := BY.below hb; replace BQ := BQ.below hb; replace BR := BR.below hb; (try (replace S1 := S1.below hb)); (try (replace S2 := S2.below hb)); (try (replace S3 := S3.below hb)); (try (replace S4 := S4.below hb)); (try (replace S5 := S5.below hb)); replace bel := bel.trans (hb.mono bel.size); clear hb)
          | (go_at_call 15; (with_reducible refine (gclean BX.v (by decide)).mono ?_); rintro e w' ⟨p7, A7, c7, l7, rfl, S3, hb⟩; replace BX := BX.below hb; replace BY := BY.below hb; replace BQ := BQ.below hb; replace BR := BR.below hb; (try (replace S1 := S1.below hb)); (try (replace S2 := S2.below hb)); (try (replace S3 := S3.below hb)); (try (replace S4 := S4.below hb)); (try (replace S5 := S5.below hb)); replace bel := bel.trans (hb.mono bel.size); clear hb)
          | (go_at_call 10; (with_reducible refine (gsame_t S2 S3 (by decide) (by decide) HDQ.out).mono ?_); rintro e w' ⟨rfl, hb⟩; replace BX := BX.below hb; replace BY := BY.below hb; replace BQ := BQ.below hb; replace BR := BR.below hb; (try (replace S1 := S1.below hb)); (try (replace S2 := S2.below hb)); (try (replace S3 := S3.below hb)); (try (replace S4 := S4.below hb)); (try (replace S5 := S5.below hb)); replace bel := bel.trans (hb.mono bel.size); clear hb)
          | (go_at_call 12; (with_reducible refine (HSY.out _ BY.v).mono ?_); rintro e w' ⟨rfl, hb⟩; replace BX := BX.below hb; replace BY := BY.below hb; replace BQ := BQ.below hb; replace BR := BR.below hb; (try (replace S1 := S1.below hb)); (try (replace S2 := S2.below hb)); (try (replace S3 := S3.below hb)); (try (replace S4 := S4.below hb)); (try (replace S5 := S5.below hb)); replace bel := bel.trans (hb.mono bel.size); clear hb)
          | (go_at_call 17; (with_reducible refine (gabs BR.v.iv (by decide)).mono ?_); rintro e w' ⟨p8, A8, c8, l8, rfl, S4, hb⟩; replace BX := BX.below hb; replace BY := BY.below hb; replace BQ := BQ.below hb; replace BR := BR.below hb; (try (replace S1 := S1.below hb)); (try (replace S2 := S2.below hb)); (try (replace S3 := S3.below hb)); (try (replace S4 := S4.below hb)); (try (replace S5 := S5.below hb)); replace bel := bel.trans (hb.mono bel.size); clear hb)
          | (go_at_call 17; (with_reducible refine (gabs BY.v (by decide)).mono ?_); rintro e w' ⟨p9, A9, c9, l9, rfl, S5, hb⟩; replace BX := BX.below hb; replace BY := BY.below hb; replace BQ := BQ.below hb; replace BR := BR.below hb; (try (replace S1 := S1.below hb)); (try (replace S2 := S2.below hb)); (try (replace S3 := S3.below hb)); (try (replace S4 := S4.below hb)); (try (replace S5 := S5.below hb)); replace bel := bel.trans (hb.mono bel.size); clear hb)
          | (go_at_call 16; (with_reducible refine (HCP.out _ _ _ _ _ _ _ _ _ S4 S5).mono ?_); rintro e w' ⟨rfl, hb⟩; replace BX := BX.below hb; replace BY := BY.below hb; replace BQ := BQ.below hb; replace BR := BR.below hb; (try (replace S1 := S1.below hb)); (try (replace S2 := S2.below hb)); (try (replace S3 := S3.below hb)); (try (replace S4 := S4.below hb)); (try (replace S5 := S5.below hb)); replace bel := bel.trans (hb.mono bel.size); clear hb))
      all_goals
        go_wp2_with fail
        go_ret
        exact ⟨by first | rfl | simp, bel⟩
end Go.Proofs.YtmhfdmidaheoeaaDoor
