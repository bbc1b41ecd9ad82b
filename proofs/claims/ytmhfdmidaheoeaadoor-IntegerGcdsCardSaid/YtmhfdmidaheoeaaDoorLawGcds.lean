/- The law IntegerGcds, walked. -/
import Derived.Test.YtmhfdmidaheoeaaDoorLg
namespace Go.Proofs.YtmhfdmidaheoeaaDoor
open Go.RowKit
set_option linter.unusedVariables false
set_option linter.unusedSimpArgs false

theorem fdiv_abs (x : Int) (g : Nat) (hd : g ∣ x.natAbs) : (x.fdiv (g : Int)).natAbs = x.natAbs / g ∧ x.fmod (g : Int) = 0 := by
  have h : (g : Int) ∣ x := Int.dvd_natAbs.1 (Int.ofNat_dvd.2 hd)
  rw [Int.fdiv_eq_ediv_of_nonneg _ (Int.natCast_nonneg _), Int.natAbs_ediv_of_dvd h]
  exact ⟨by simp, Int.fmod_eq_zero_of_dvd h⟩

set_option maxRecDepth 100000 in
set_option maxHeartbeats 8000000 in
theorem gcds_walk (nx : Bool) (A : Option Addr) (ca : Nat) (xs : List Nat) (ny : Bool) (B : Option Addr) (cb : Nat) (ys : List Nat) (w : World) (hx : Sl w w.heap.size A ca xs) (hy : Sl w w.heap.size B cb ys) (ht : Tabs w) :
    Calls Tryd.prog 4 #[intV nx A xs.length ca, intV ny B ys.length cb] w fun e w' => e = .returned (.bool true) ∧ Below w.heap.size w w' := by
  unfold intV
  obtain ⟨x, hxv⟩ : ∃ x : Int, x = Kn.iv nx xs := ⟨_, rfl⟩
  obtain ⟨y, hyv⟩ : ∃ y : Int, y = Kn.iv ny ys := ⟨_, rfl⟩
  have HXV := Lib.hid hxv.symm
  have HYV := Lib.hid hyv.symm
  clear hxv hyv
  go_enter Tryd.func4, Tryd.ntmps4
  go_wp2_with fail
  have TX : Two ((w.alloc (.cells #[.bool nx, .slice A xs.length ca] 24)).alloc (.cells #[.bool ny, .slice B ys.length cb] 24)) w.heap.size (.bool nx) (.slice A xs.length ca) := (Two.new_ _ _ _ _).alloc _
  have TY : Two ((w.alloc (.cells #[.bool nx, .slice A xs.length ca] 24)).alloc (.cells #[.bool ny, .slice B ys.length cb] 24)) (w.heap.size + 1) (.bool ny) (.slice B ys.length cb) := by
    have := Two.new_ (w.alloc (.cells #[.bool nx, .slice A xs.length ca] 24)) (.bool ny) (.slice B ys.length cb) 24
    rwa [World.size_alloc] at this
  have bel : Below w.heap.size w ((w.alloc (.cells #[.bool nx, .slice A xs.length ca] 24)).alloc (.cells #[.bool ny, .slice B ys.length cb] 24)) := ((Below.refl _ _).alloc (Nat.le_refl _) _).alloc (by simp) _
  revert TX TY bel
  generalize (w.alloc (.cells #[.bool nx, .slice A xs.length ca] 24)).alloc (.cells #[.bool ny, .slice B ys.length cb] 24) = w1
  intro TX TY bel
  refine (known_ok _ (ht.below bel)).mono ?_
  rintro e w2 ⟨rfl, hb⟩
  replace TX := TX.below hb TX.lt
  replace TY := TY.below hb TY.lt
  replace bel := bel.trans (hb.mono bel.size)
  clear hb
  have x0 := TX.c0
  have x1 := TX.c1
  have y0 := TY.c0
  have y1 := TY.c1
  rcases Decidable.em (¬ xs.length ≤ 10) with hxl | hxl
  · have HL := Lib.hid hxl
    clear hxl
    go_wp2_with fail
    refine (gshort_f _ HL.out).mono ?_
    rintro e w' ⟨rfl, hb⟩
    clear x0 x1 y0 y1
    replace TX := TX.below hb TX.lt
    replace TY := TY.below hb TY.lt
    replace bel := bel.trans (hb.mono bel.size)
    clear hb
    go_wp2_with fail
    go_ret
    exact ⟨rfl, bel⟩
  replace hxl : xs.length ≤ 10 := by omega
  rcases Decidable.em (¬ ys.length ≤ 10) with hyl | hyl
  · have HL := Lib.hid hyl
    clear hyl
    go_wp2_with fail
    refine (gshort_t _ hxl).mono ?_
    rintro e w' ⟨rfl, hb⟩
    clear x0 x1 y0 y1
    replace TX := TX.below hb TX.lt
    replace TY := TY.below hb TY.lt
    replace bel := bel.trans (hb.mono bel.size)
    clear hb
    have x0 := TX.c0
    have x1 := TX.c1
    have y0 := TY.c0
    have y1 := TY.c1
    go_wp2_with fail
    refine (gshort_f _ HL.out).mono ?_
    rintro e w' ⟨rfl, hb⟩
    clear x0 x1 y0 y1
    replace TX := TX.below hb TX.lt
    replace TY := TY.below hb TY.lt
    replace bel := bel.trans (hb.mono bel.size)
    clear hb
    go_wp2_with fail
    go_ret
    exact ⟨rfl, bel⟩
  replace hyl : ys.length ≤ 10 := by omega
  go_wp2_with fail
  refine (gshort_t _ hxl).mono ?_
  rintro e w' ⟨rfl, hb⟩
  clear x0 x1 y0 y1
  replace TX := TX.below hb TX.lt
  replace TY := TY.below hb TY.lt
  replace bel := bel.trans (hb.mono bel.size)
  clear hb
  have x0 := TX.c0
  have x1 := TX.c1
  have y0 := TY.c0
  have y1 := TY.c1
  go_wp2_with fail
  refine (gshort_t _ hyl).mono ?_
  rintro e w' ⟨rfl, hb⟩
  clear x0 x1 y0 y1
  replace TX := TX.below hb TX.lt
  replace TY := TY.below hb TY.lt
  replace bel := bel.trans (hb.mono bel.size)
  clear hb
  have x0 := TX.c0
  have x1 := TX.c1
  have y0 := TY.c0
  have y1 := TY.c1
  have BX : Bv _ w.heap.size x 10 nx A ca xs := ⟨TX, (hx.below bel).more bel.size, HXV.out, hxl⟩
  have BY : Bv _ (w.heap.size + 1) y 10 ny B cb ys := ⟨TY, (hy.below bel).more bel.size, HYV.out, hyl⟩
  clear TX TY hx hy hxl hyl HXV HYV
  clear x0 x1 y0 y1
  obtain ⟨G, hG⟩ : ∃ G, Hid (G = Nat.gcd x.natAbs y.natAbs) := ⟨_, Lib.hid rfl⟩
  obtain ⟨gz, hgz⟩ : ∃ z : Int, Hid (z = (G : Int)) := ⟨_, Lib.hid rfl⟩
  have HGG := Lib.hid (fun (W : World) (h1 : Iv W nx A ca xs x 10) (h2 : Iv W ny B cb ys y 10) => (by have := ggcd h1 h2 (by decide) (by decide); rw [← hG.out, ← hgz.out] at this; exact this : Calls Tryd.prog 18 #[.agg #[.bool nx, .slice A xs.length ca], .agg #[.bool ny, .slice B ys.length cb]] W (GI gz 10 W)))
  have HGR := Lib.hid (fun (W : World) (h1 : Iv W nx A ca xs x 10) (h2 : Iv W ny B cb ys y 10) => (by have := grgcd h1 h2 (by decide) (by decide); rw [← hG.out, ← hgz.out] at this; exact this : Calls Tryd.prog 19 #[.agg #[.bool nx, .slice A xs.length ca], .agg #[.bool ny, .slice B ys.length cb]] W (GI gz 10 W)))
  obtain ⟨sg, hsg⟩ : ∃ s, Hid (s = gz.sign) := ⟨_, Lib.hid rfl⟩
  have hsg0 : ¬ sg < 0 := by rw [hsg.out, hgz.out]; have := Int.natCast_nonneg G; rw [Int.not_lt]; exact Int.sign_nonneg_iff.2 this
  have gsg : decide (sg < 0) = false := decide_eq_false hsg0
  have HSG := Lib.hid (fun (W : World) (p : Bool) (C : Option Addr) (c : Nat) (l : List Nat) (h : Cn W p C c l gz 10) => (by have := gsign h.iv (by decide); rwa [← hsg.out] at this : Calls Tryd.prog 12 #[.agg #[.bool p, .slice C l.length c]] W fun e w' => e = .returned (.int .i64 sg) ∧ Below W.heap.size W w'))
  have bx0 := BX.t.c0
  have bx1 := BX.t.c1
  have by0 := BY.t.c0
  have by1 := BY.t.c1
  go_wp2_with fail
  refine (HGG.out _ BX.v BY.v).mono ?_
  rintro e w3 ⟨p1, A1, c1, l1, rfl, S1, hb⟩
  clear bx0 bx1 by0 by1
  replace BX := BX.below hb
  replace BY := BY.below hb
  replace bel := bel.trans (hb.mono bel.size)
  clear hb
  have BG : Bi (w3.alloc (.cells #[.bool p1, .slice A1 l1.length c1] 24)) w3.heap.size gz 10 p1 A1 c1 l1 := Bi.new_ S1 _
  replace BX := BX.alloc (.cells #[.bool p1, .slice A1 l1.length c1] 24)
  replace BY := BY.alloc (.cells #[.bool p1, .slice A1 l1.length c1] 24)
  replace bel := bel.alloc bel.size (.cells #[.bool p1, .slice A1 l1.length c1] 24)
  go_wp2_with fail
  clear S1
  generalize w3.alloc (.cells #[.bool p1, .slice A1 l1.length c1] 24) = w4 at BX BY BG bel ⊢
  generalize w3.heap.size = g1 at BX BY BG bel ⊢
  replace BX := BX.drew
  replace BY := BY.drew
  replace BG := BG.drew
  replace bel := bDrew1 bel
  go_region_held3 (fun w' => w'.cell? ⟨w.heap.size, 0, none⟩ = some (.bool nx) ∧ w'.cell? ⟨w.heap.size, 1, none⟩ = some (.slice A xs.length ca) ∧ w'.cell? ⟨w.heap.size + 1, 0, none⟩ = some (.bool ny) ∧ w'.cell? ⟨w.heap.size + 1, 1, none⟩ = some (.slice B ys.length cb) ∧ w'.cell? ⟨g1, 0, none⟩ = some (.bool p1) ∧ w'.cell? ⟨g1, 1, none⟩ = some (.slice A1 l1.length c1))
    (with_reducible exact ⟨BX.t.c0, BX.t.c1, BY.t.c0, BY.t.c1, BG.t.c0, BG.t.c1⟩)
    (first
      | (go_at_call 12; (with_reducible refine (HSG.out _ _ _ _ _ BG.v).mono ?_); rintro e w' ⟨rfl, hb⟩; replace BX := BX.below hb; replace BY := BY.below hb; replace BG := BG.below hb; (try (replace S2 := S2.below hb)); replace bel := bel.trans (hb.mono bel.size); clear hb)
      | (go_at_call 19; (with_reducible refine (HGR.out _ BX.v BY.v).mono ?_); rintro e w' ⟨p2, A2, c2, l2, rfl, S2, hb⟩; replace BX := BX.below hb; replace BY := BY.below hb; replace BG := BG.below hb; (try (replace S2 := S2.below hb)); replace bel := bel.trans (hb.mono bel.size); clear hb)
      | (go_at_call 10; (with_reducible refine (gsame_t BG.v S2 (by decide) (by decide) rfl).mono ?_); rintro e w5 ⟨rfl, hb⟩; replace BX := BX.below hb; replace BY := BY.below hb; replace BG := BG.below hb; (try (replace S2 := S2.below hb)); replace bel := bel.trans (hb.mono bel.size); clear hb))
  clear HGG HGR S2
  rcases Nat.eq_zero_or_pos G with hG0 | hG0
  · have gs : (sg == 0) = true := by rw [hsg.out, hgz.out, hG0]; rfl
    have hx0 : x = 0 := by have h := hG.out; rw [hG0] at h; have := Nat.eq_zero_of_gcd_eq_zero_left h.symm; omega
    have hy0 : y = 0 := by have h := hG.out; rw [hG0] at h; have := Nat.eq_zero_of_gcd_eq_zero_right h.symm; omega
    have HSX := Lib.hid (fun (W : World) (h : Iv W nx A ca xs x 10) => (by have := gsign h (by decide); rwa [hx0] at this : Calls Tryd.prog 12 #[.agg #[.bool nx, .slice A xs.length ca]] W fun e w' => e = .returned (.int .i64 (0 : Int).sign) ∧ Below W.heap.size W w'))
    have HSY := Lib.hid (fun (W : World) (h : Iv W ny B cb ys y 10) => (by have := gsign h (by decide); rwa [hy0] at this : Calls Tryd.prog 12 #[.agg #[.bool ny, .slice B ys.length cb]] W fun e w' => e = .returned (.int .i64 (0 : Int).sign) ∧ Below W.heap.size W w'))
    have hs0 : (0 : Int).sign = 0 := rfl
    rw [hs0] at HSX HSY
    clear hx0 hy0 hG0 hs0
    have bg0 := BG.t.c0
    have bg1 := BG.t.c1
    go_wp2_with fail
    clear bg0 bg1
    refine (HSG.out _ _ _ _ _ BG.v).mono ?_
    rintro e w6 ⟨rfl, hb⟩
    replace BX := BX.below hb
    replace BY := BY.below hb
    replace BG := BG.below hb
    replace bel := bel.trans (hb.mono bel.size)
    clear hb
    have bx0 := BX.t.c0
    have bx1 := BX.t.c1
    go_wp2_with fail
    clear bx0 bx1
    refine (HSX.out _ BX.v).mono ?_
    rintro e w7 ⟨rfl, hb⟩
    replace BX := BX.below hb
    replace BY := BY.below hb
    replace BG := BG.below hb
    replace bel := bel.trans (hb.mono bel.size)
    clear hb
    have by0 := BY.t.c0
    have by1 := BY.t.c1
    go_wp2_with fail
    clear by0 by1
    refine (HSY.out _ BY.v).mono ?_
    rintro e w8 ⟨rfl, hb⟩
    replace BX := BX.below hb
    replace BY := BY.below hb
    replace BG := BG.below hb
    replace bel := bel.trans (hb.mono bel.size)
    clear hb
    go_wp2_with fail
    go_ret
    exact ⟨rfl, bel⟩
  · have gs : (sg == 0) = false := by rw [beq_eq_false_iff_ne, hsg.out, hgz.out]; intro h; have := Int.sign_eq_zero_iff_zero.1 h; omega
    have hgz0 : gz ≠ 0 := by rw [hgz.out]; omega
    have D1 := fdiv_abs x G (by rw [hG.out]; exact Nat.gcd_dvd_left _ _)
    have D2 := fdiv_abs y G (by rw [hG.out]; exact Nat.gcd_dvd_right _ _)
    have D3 : Nat.gcd (x.fdiv (G : Int)).natAbs (y.fdiv (G : Int)).natAbs = 1 := by
      rw [D1.1, D2.1, Nat.gcd_div (by rw [hG.out]; exact Nat.gcd_dvd_left _ _) (by rw [hG.out]; exact Nat.gcd_dvd_right _ _), ← hG.out]
      exact Nat.div_self hG0
    rw [← hgz.out] at D1 D2 D3
    have HD1 := Lib.hid (fun (W : World) (p : Bool) (C : Option Addr) (c : Nat) (l : List Nat) (h1 : Iv W nx A ca xs x 10) (h2 : Cn W p C c l gz 10) => (by have := gdivide h1 h2.iv hgz0 (by decide) (by decide); rwa [D1.2] at this : Calls Tryd.prog 8 #[.agg #[.bool nx, .slice A xs.length ca], .agg #[.bool p, .slice C l.length c]] W (GI2 (x.fdiv gz) 0 10 10 W)))
    have HD2 := Lib.hid (fun (W : World) (p : Bool) (C : Option Addr) (c : Nat) (l : List Nat) (h1 : Iv W ny B cb ys y 10) (h2 : Cn W p C c l gz 10) => (by have := gdivide h1 h2.iv hgz0 (by decide) (by decide); rwa [D2.2] at this : Calls Tryd.prog 8 #[.agg #[.bool ny, .slice B ys.length cb], .agg #[.bool p, .slice C l.length c]] W (GI2 (y.fdiv gz) 0 10 10 W)))
    have H3 := Lib.hid D3
    clear D1 D2 D3 hG0 hgz0
    generalize x.fdiv gz = az at H3 HD1
    generalize y.fdiv gz = bz at H3 HD2
    have HGC := Lib.hid (fun (W : World) (p q : Bool) (C D : Option Addr) (c d : Nat) (l m : List Nat) (h1 : Cn W p C c l az 10) (h2 : Cn W q D d m bz 10) => (by have := ggcd h1.iv h2.iv (by decide) (by decide); rw [H3.out] at this; exact this : Calls Tryd.prog 18 #[.agg #[.bool p, .slice C l.length c], .agg #[.bool q, .slice D m.length d]] W (GI 1 10 W)))
    have HS0 := Lib.hid (fun (W : World) (p : Bool) (C : Option Addr) (c : Nat) (l : List Nat) (h : Cn W p C c l 0 10) => (gsign h.iv (by decide) : Calls Tryd.prog 12 #[.agg #[.bool p, .slice C l.length c]] W fun e w' => e = .returned (.int .i64 0) ∧ Below W.heap.size W w'))
    have bg0 := BG.t.c0
    have bg1 := BG.t.c1
    go_wp2_with fail
    clear bg0 bg1
    refine (HSG.out _ _ _ _ _ BG.v).mono ?_
    rintro e w6 ⟨rfl, hb⟩
    replace BX := BX.below hb
    replace BY := BY.below hb
    replace BG := BG.below hb
    replace bel := bel.trans (hb.mono bel.size)
    clear hb
    have bx0 := BX.t.c0
    have bx1 := BX.t.c1
    have bg0 := BG.t.c0
    have bg1 := BG.t.c1
    go_wp2_with fail
    clear bx0 bx1 bg0 bg1
    refine (HD1.out _ _ _ _ _ BX.v BG.v).mono ?_
    rintro e w7 ⟨p3, A3, c3, l3, p4, A4, c4, l4, rfl, S3, S4, hb⟩
    replace BX := BX.below hb
    replace BY := BY.below hb
    replace BG := BG.below hb
    replace bel := bel.trans (hb.mono bel.size)
    clear hb
    have BA : Bi ((w7.alloc (.cells #[.bool p3, .slice A3 l3.length c3] 24)).alloc (.cells #[.bool p4, .slice A4 l4.length c4] 24)) w7.heap.size az 10 p3 A3 c3 l3 := (Bi.new_ S3 _).alloc _
    have BR : Bi ((w7.alloc (.cells #[.bool p3, .slice A3 l3.length c3] 24)).alloc (.cells #[.bool p4, .slice A4 l4.length c4] 24)) (w7.heap.size + 1) 0 10 p4 A4 c4 l4 := Bi.new2 S4 _ _
    replace BX := (BX.alloc (.cells #[.bool p3, .slice A3 l3.length c3] 24)).alloc (.cells #[.bool p4, .slice A4 l4.length c4] 24)
    replace BY := (BY.alloc (.cells #[.bool p3, .slice A3 l3.length c3] 24)).alloc (.cells #[.bool p4, .slice A4 l4.length c4] 24)
    replace BG := (BG.alloc (.cells #[.bool p3, .slice A3 l3.length c3] 24)).alloc (.cells #[.bool p4, .slice A4 l4.length c4] 24)
    replace bel := (bel.alloc bel.size (.cells #[.bool p3, .slice A3 l3.length c3] 24)).alloc (by simp; have := bel.size; omega) (.cells #[.bool p4, .slice A4 l4.length c4] 24)
    clear S3 S4
    have by0 := BY.t.c0
    have by1 := BY.t.c1
    have bg0 := BG.t.c0
    have bg1 := BG.t.c1
    go_wp2_with fail
    clear by0 by1 bg0 bg1
    generalize ((w7.alloc (.cells #[.bool p3, .slice A3 l3.length c3] 24)).alloc (.cells #[.bool p4, .slice A4 l4.length c4] 24)) = w8 at BX BY BG BA BR bel ⊢
    generalize w7.heap.size = g2 at BX BY BG BA BR bel ⊢
    refine (HD2.out _ _ _ _ _ BY.v BG.v).mono ?_
    rintro e w9 ⟨p5, A5, c5, l5, p6, A6, c6, l6, rfl, S5, S6, hb⟩
    replace BX := BX.below hb
    replace BY := BY.below hb
    replace BG := BG.below hb
    replace BA := BA.below hb
    replace BR := BR.below hb
    replace bel := bel.trans (hb.mono bel.size)
    clear hb
    have BB : Bi ((w9.alloc (.cells #[.bool p5, .slice A5 l5.length c5] 24)).alloc (.cells #[.bool p6, .slice A6 l6.length c6] 24)) w9.heap.size bz 10 p5 A5 c5 l5 := (Bi.new_ S5 _).alloc _
    have BS : Bi ((w9.alloc (.cells #[.bool p5, .slice A5 l5.length c5] 24)).alloc (.cells #[.bool p6, .slice A6 l6.length c6] 24)) (w9.heap.size + 1) 0 10 p6 A6 c6 l6 := Bi.new2 S6 _ _
    replace BX := (BX.alloc (.cells #[.bool p5, .slice A5 l5.length c5] 24)).alloc (.cells #[.bool p6, .slice A6 l6.length c6] 24)
    replace BY := (BY.alloc (.cells #[.bool p5, .slice A5 l5.length c5] 24)).alloc (.cells #[.bool p6, .slice A6 l6.length c6] 24)
    replace BG := (BG.alloc (.cells #[.bool p5, .slice A5 l5.length c5] 24)).alloc (.cells #[.bool p6, .slice A6 l6.length c6] 24)
    replace BA := (BA.alloc (.cells #[.bool p5, .slice A5 l5.length c5] 24)).alloc (.cells #[.bool p6, .slice A6 l6.length c6] 24)
    replace BR := (BR.alloc (.cells #[.bool p5, .slice A5 l5.length c5] 24)).alloc (.cells #[.bool p6, .slice A6 l6.length c6] 24)
    replace bel := (bel.alloc bel.size (.cells #[.bool p5, .slice A5 l5.length c5] 24)).alloc (by simp; have := bel.size; omega) (.cells #[.bool p6, .slice A6 l6.length c6] 24)
    clear S5 S6
    have br0 := BR.t.c0
    have br1 := BR.t.c1
    go_wp2_with fail
    clear br0 br1
    generalize ((w9.alloc (.cells #[.bool p5, .slice A5 l5.length c5] 24)).alloc (.cells #[.bool p6, .slice A6 l6.length c6] 24)) = w10 at BX BY BG BA BR BB BS bel ⊢
    generalize w9.heap.size = g3 at BX BY BG BA BR BB BS bel ⊢
    refine (HS0.out _ _ _ _ _ BR.v).mono ?_
    rintro e w11 ⟨rfl, hb⟩
    replace BX := BX.below hb
    replace BY := BY.below hb
    replace BG := BG.below hb
    replace BA := BA.below hb
    replace BR := BR.below hb
    replace BB := BB.below hb
    replace BS := BS.below hb
    replace bel := bel.trans (hb.mono bel.size)
    clear hb
    have bs0 := BS.t.c0
    have bs1 := BS.t.c1
    go_wp2_with fail
    clear bs0 bs1
    refine (HS0.out _ _ _ _ _ BS.v).mono ?_
    rintro e w12 ⟨rfl, hb⟩
    replace BX := BX.below hb
    replace BY := BY.below hb
    replace BG := BG.below hb
    replace BA := BA.below hb
    replace BR := BR.below hb
    replace BB := BB.below hb
    replace BS := BS.below hb
    replace bel := bel.trans (hb.mono bel.size)
    clear hb
    have ba0 := BA.t.c0
    have ba1 := BA.t.c1
    have bb0 := BB.t.c0
    have bb1 := BB.t.c1
    go_wp2_with fail
    clear ba0 ba1 bb0 bb1
    refine (HGC.out _ _ _ _ _ _ _ _ _ BA.v BB.v).mono ?_
    rintro e w13 ⟨p7, A7, c7, l7, rfl, S7, hb⟩
    replace BX := BX.below hb
    replace BY := BY.below hb
    replace BG := BG.below hb
    replace BA := BA.below hb
    replace BR := BR.below hb
    replace BB := BB.below hb
    replace BS := BS.below hb
    replace bel := bel.trans (hb.mono bel.size)
    clear hb
    go_wp2_with fail
    refine (gof1 _).mono ?_
    rintro e w14 ⟨p8, A8, c8, l8, rfl, S8, hb⟩
    replace S7 := S7.below hb
    replace BX := BX.below hb
    replace BY := BY.below hb
    replace BG := BG.below hb
    replace BA := BA.below hb
    replace BR := BR.below hb
    replace BB := BB.below hb
    replace BS := BS.below hb
    replace bel := bel.trans (hb.mono bel.size)
    clear hb
    go_wp2_with fail
    refine (gsame_t S7 S8 (by decide) (by decide) rfl).mono ?_
    rintro e w15 ⟨rfl, hb⟩
    replace BX := BX.below hb
    replace BY := BY.below hb
    replace BG := BG.below hb
    replace BA := BA.below hb
    replace BR := BR.below hb
    replace BB := BB.below hb
    replace BS := BS.below hb
    replace bel := bel.trans (hb.mono bel.size)
    clear hb
    go_wp2_with fail
    go_ret
    exact ⟨rfl, bel⟩
end Go.Proofs.YtmhfdmidaheoeaaDoor
