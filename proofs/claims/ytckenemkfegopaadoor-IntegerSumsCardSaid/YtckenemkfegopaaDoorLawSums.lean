/- The law IntegerSums, walked. -/
import Derived.Test.YtckenemkfegopaaDoorLs
namespace Go.Proofs.YtckenemkfegopaaDoor
open Go.RowKit
set_option linter.unusedVariables false

set_option maxRecDepth 100000 in
set_option maxHeartbeats 16000000 in
theorem sums_walk (nx : Bool) (A : Option Addr) (ca : Nat) (xs : List Nat) (ny : Bool) (B : Option Addr) (cb : Nat) (ys : List Nat) (nz : Bool) (C : Option Addr) (cc : Nat) (zs : List Nat) (w : World) (hx : Sl w w.heap.size A ca xs) (hy : Sl w w.heap.size B cb ys) (hz : Sl w w.heap.size C cc zs) (ht : Tabs w) :
    Calls Tryd.prog 5 #[intV nx A xs.length ca, intV ny B ys.length cb, intV nz C zs.length cc] w fun e w' => e = .returned (.bool true) ∧ Below w.heap.size w w' := by
  unfold intV
  go_enter Tryd.func5, Tryd.ntmps5
  go_wp2_with fail
  have i := A3.new_ w nx A xs.length ca ny B ys.length cb nz C zs.length cc 24
  revert i
  generalize ((w.alloc (.cells #[.bool nx, .slice A xs.length ca] 24)).alloc (.cells #[.bool ny, .slice B ys.length cb] 24)).alloc (.cells #[.bool nz, .slice C zs.length cc] 24) = w1
  intro i
  refine (known_ok _ (ht.below i.bel)).mono ?_
  rintro e w2 ⟨rfl, hb⟩
  replace i := i.below hb
  clear hb
  have x0 := i.t1.c0
  have x1 := i.t1.c1
  have y0 := i.t2.c0
  have y1 := i.t2.c1
  have z0 := i.t3.c0
  have z1 := i.t3.c1
  rcases Decidable.em (¬ xs.length ≤ 10) with hxl | hxl
  · have HL := Lib.hid hxl
    clear hxl
    go_wp2_with fail
    refine (gshort_f _ HL.out).mono ?_
    rintro e w' ⟨rfl, hb⟩
    replace i := i.below hb
    clear x0 x1 y0 y1 z0 z1
    clear hb
    go_wp2_with fail
    go_ret
    exact ⟨rfl, i.bel⟩
  replace hxl : xs.length ≤ 10 := by omega
  rcases Decidable.em (¬ ys.length ≤ 10) with hyl | hyl
  · have HL := Lib.hid hyl
    clear hyl
    go_wp2_with fail
    refine (gshort_t _ hxl).mono ?_
    rintro e w' ⟨rfl, hb⟩
    replace i := i.below hb
    clear x0 x1 y0 y1 z0 z1
    clear hb
    have x0 := i.t1.c0
    have x1 := i.t1.c1
    have y0 := i.t2.c0
    have y1 := i.t2.c1
    have z0 := i.t3.c0
    have z1 := i.t3.c1
    go_wp2_with fail
    refine (gshort_f _ HL.out).mono ?_
    rintro e w' ⟨rfl, hb⟩
    replace i := i.below hb
    clear x0 x1 y0 y1 z0 z1
    clear hb
    go_wp2_with fail
    go_ret
    exact ⟨rfl, i.bel⟩
  replace hyl : ys.length ≤ 10 := by omega
  rcases Decidable.em (¬ zs.length ≤ 10) with hzl | hzl
  · have HL := Lib.hid hzl
    clear hzl
    go_wp2_with fail
    refine (gshort_t _ hxl).mono ?_
    rintro e w' ⟨rfl, hb⟩
    replace i := i.below hb
    clear x0 x1 y0 y1 z0 z1
    clear hb
    have x0 := i.t1.c0
    have x1 := i.t1.c1
    have y0 := i.t2.c0
    have y1 := i.t2.c1
    have z0 := i.t3.c0
    have z1 := i.t3.c1
    go_wp2_with fail
    refine (gshort_t _ hyl).mono ?_
    rintro e w' ⟨rfl, hb⟩
    replace i := i.below hb
    clear x0 x1 y0 y1 z0 z1
    clear hb
    have x0 := i.t1.c0
    have x1 := i.t1.c1
    have y0 := i.t2.c0
    have y1 := i.t2.c1
    have z0 := i.t3.c0
    have z1 := i.t3.c1
    go_wp2_with fail
    refine (gshort_f _ HL.out).mono ?_
    rintro e w' ⟨rfl, hb⟩
    replace i := i.below hb
    clear x0 x1 y0 y1 z0 z1
    clear hb
    go_wp2_with fail
    go_ret
    exact ⟨rfl, i.bel⟩
  replace hzl : zs.length ≤ 10 := by omega
  go_wp2_with fail
  refine (gshort_t _ hxl).mono ?_
  rintro e w' ⟨rfl, hb⟩
  replace i := i.below hb
  clear x0 x1 y0 y1 z0 z1
  clear hb
  have x0 := i.t1.c0
  have x1 := i.t1.c1
  have y0 := i.t2.c0
  have y1 := i.t2.c1
  have z0 := i.t3.c0
  have z1 := i.t3.c1
  go_wp2_with fail
  refine (gshort_t _ hyl).mono ?_
  rintro e w' ⟨rfl, hb⟩
  replace i := i.below hb
  clear x0 x1 y0 y1 z0 z1
  clear hb
  have x0 := i.t1.c0
  have x1 := i.t1.c1
  have y0 := i.t2.c0
  have y1 := i.t2.c1
  have z0 := i.t3.c0
  have z1 := i.t3.c1
  go_wp2_with fail
  refine (gshort_t _ hzl).mono ?_
  rintro e w' ⟨rfl, hb⟩
  replace i := i.below hb
  clear x0 x1 y0 y1 z0 z1
  clear hb
  have x0 := i.t1.c0
  have x1 := i.t1.c1
  have y0 := i.t2.c0
  have y1 := i.t2.c1
  have z0 := i.t3.c0
  have z1 := i.t3.c1
  obtain ⟨x, hxv⟩ : ∃ x : Int, x = Kn.iv nx xs := ⟨_, rfl⟩
  obtain ⟨y, hyv⟩ : ∃ y : Int, y = Kn.iv ny ys := ⟨_, rfl⟩
  obtain ⟨z, hzv⟩ : ∃ z : Int, z = Kn.iv nz zs := ⟨_, rfl⟩
  have X : Iv _ nx A ca xs x 10 := ⟨(hx.below i.bel).more i.bel.size, hxv.symm, hxl⟩
  have Y : Iv _ ny B cb ys y 10 := ⟨(hy.below i.bel).more i.bel.size, hyv.symm, hyl⟩
  have Z : Iv _ nz C cc zs z 10 := ⟨(hz.below i.bel).more i.bel.size, hzv.symm, hzl⟩
  clear hxv hyv hzv
  clear hx hy hz hxl hyl hzl
  have Q : Q3 w _ nx A ca xs x ny B cb ys y nz C cc zs z := ⟨i, X, Y, Z⟩
  clear i X Y Z
  go_upto_region 5 with (fail)
  clear x0 x1 y0 y1 z0 z1
  go_cut [7, 8] (fun s7 s8 wx => ∃ g h p4 A4 c4 l4 p5 A5 c5 l5, s7 = .pointer (some ⟨g, 0, none⟩) ∧ s8 = .pointer (some ⟨h, 0, none⟩) ∧ Q5 w wx g h nx A ca xs x ny B cb ys y nz C cc zs z p4 A4 c4 l4 p5 A5 c5 l5)
  case first =>
    have z0 := Q.size
    go_region_held3 (fun w' => w'.cell? ⟨w.heap.size, 0, none⟩ = some (.bool nx) ∧ w'.cell? ⟨w.heap.size, 1, none⟩ = some (.slice A xs.length ca) ∧ w'.cell? ⟨w.heap.size + 1, 0, none⟩ = some (.bool ny) ∧ w'.cell? ⟨w.heap.size + 1, 1, none⟩ = some (.slice B ys.length cb))
      ((repeat' (first | (with_reducible refine And.intro ?_ ?_) | (with_reducible refine far2 ?_ ?_) | (with_reducible refine cell_alloc ?_) | (with_reducible refine cell_drew ?_))) <;> (first | (with_reducible exact Q.i.t1.c0) | (with_reducible exact Q.i.t1.c1) | (with_reducible exact Q.i.t2.c0) | (with_reducible exact Q.i.t2.c1) | omega | (simp; omega)))
      (first
        | (go_at_call 32; (first | ((with_reducible refine (gadd Q.drew.X Q.drew.Y (by decide) (by decide)).mono ?_); rintro e w1 ⟨p4, A4, c4, l4, rfl, S4, hb⟩; replace Q := Q.drew.below hb; have z1 := Q.size; clear hb) | ((with_reducible refine (gadd (Q.alloc _).drew.X (Q.alloc _).drew.Y (by decide) (by decide)).mono ?_); rintro e w1 ⟨p4, A4, c4, l4, rfl, S4, hb⟩; have tA := (Two.new_ _ (.bool false) (.slice none 0 0) 24).drew.below hb (Two.new_ _ (.bool false) (.slice none 0 0) 24).drew.lt; have tAn := Nat.ne_of_lt tA.lt; have tAm := Nat.ne_of_gt tA.lt; replace Q := (Q.alloc _).drew.below hb; have z1 := Q.size; clear hb) | ((with_reducible refine (gadd ((Q.alloc _).alloc _).drew.X ((Q.alloc _).alloc _).drew.Y (by decide) (by decide)).mono ?_); rintro e w1 ⟨p4, A4, c4, l4, rfl, S4, hb⟩; have tA := ((Two.new_ _ (.bool false) (.slice none 0 0) 24).alloc _).drew.below hb ((Two.new_ _ (.bool false) (.slice none 0 0) 24).alloc _).drew.lt; have tB := (two_new2 _ (.bool false) (.slice none 0 0) 24 _).drew.below hb (two_new2 _ (.bool false) (.slice none 0 0) 24 _).drew.lt; have tAn := Nat.ne_of_lt tA.lt; have tAm := Nat.ne_of_gt tA.lt; have tBn := Nat.ne_of_lt tB.lt; have tBm := Nat.ne_of_gt tB.lt; replace Q := ((Q.alloc _).alloc _).drew.below hb; have z1 := Q.size; clear hb)))
        | (go_at_call 33; (first | ((with_reducible refine (gsub Q.X Q.Y (by decide) (by decide)).mono ?_); rintro e w2 ⟨p5, A5, c5, l5, rfl, S5, hb⟩; replace tA := tA.below hb tA.lt; replace tB := tB.below hb tB.lt; have tA0 := tA.c0; have tA1 := tA.c1; have tA2 := tA.fr 0; have tA3 := tA.fr 1; have tAl := tA.lt; have tAp := Nat.ne_of_lt tA.lt; have tAq := Nat.ne_of_gt tA.lt; have tB0 := tB.c0; have tB1 := tB.c1; have tB2 := tB.fr 0; have tB3 := tB.fr 1; have tBl := tB.lt; have tBp := Nat.ne_of_lt tB.lt; have tBq := Nat.ne_of_gt tB.lt; replace S4 := S4.below hb; replace Q := Q.below hb; have z2 := Q.size; clear hb) | ((with_reducible refine (gsub (Q.alloc _).X (Q.alloc _).Y (by decide) (by decide)).mono ?_); rintro e w2 ⟨p5, A5, c5, l5, rfl, S5, hb⟩; replace tA := (tA.alloc _).below hb (tA.alloc _).lt; have tC := (Two.new_ _ (.bool false) (.slice none 0 0) 24).below hb (Two.new_ _ (.bool false) (.slice none 0 0) 24).lt; have tA0 := tA.c0; have tA1 := tA.c1; have tA2 := tA.fr 0; have tA3 := tA.fr 1; have tAl := tA.lt; have tAp := Nat.ne_of_lt tA.lt; have tAq := Nat.ne_of_gt tA.lt; have tC0 := tC.c0; have tC1 := tC.c1; have tC2 := tC.fr 0; have tC3 := tC.fr 1; have tCl := tC.lt; have tCp := Nat.ne_of_lt tC.lt; have tCq := Nat.ne_of_gt tC.lt; replace S4 := (S4.alloc _).below hb; replace Q := (Q.alloc _).below hb; have z2 := Q.size; clear hb) | ((with_reducible refine (gsub Q.X Q.Y (by decide) (by decide)).mono ?_); rintro e w2 ⟨p5, A5, c5, l5, rfl, S5, hb⟩; replace tA := tA.below hb tA.lt; have tA0 := tA.c0; have tA1 := tA.c1; have tA2 := tA.fr 0; have tA3 := tA.fr 1; have tAl := tA.lt; have tAp := Nat.ne_of_lt tA.lt; have tAq := Nat.ne_of_gt tA.lt; replace S4 := S4.below hb; replace Q := Q.below hb; have z2 := Q.size; clear hb) | ((with_reducible refine (gsub ((Q.alloc _).alloc _).X ((Q.alloc _).alloc _).Y (by decide) (by decide)).mono ?_); rintro e w2 ⟨p5, A5, c5, l5, rfl, S5, hb⟩; have tC := ((Two.new_ _ (.bool false) (.slice none 0 0) 24).alloc _).below hb ((Two.new_ _ (.bool false) (.slice none 0 0) 24).alloc _).lt; have tD := (two_new2 _ (.bool false) (.slice none 0 0) 24 _).below hb (two_new2 _ (.bool false) (.slice none 0 0) 24 _).lt; have tC0 := tC.c0; have tC1 := tC.c1; have tC2 := tC.fr 0; have tC3 := tC.fr 1; have tCl := tC.lt; have tCp := Nat.ne_of_lt tC.lt; have tCq := Nat.ne_of_gt tC.lt; have tD0 := tD.c0; have tD1 := tD.c1; have tD2 := tD.fr 0; have tD3 := tD.fr 1; have tDl := tD.lt; have tDp := Nat.ne_of_lt tD.lt; have tDq := Nat.ne_of_gt tD.lt; replace S4 := ((S4.alloc _).alloc _).below hb; replace Q := ((Q.alloc _).alloc _).below hb; have z2 := Q.size; clear hb) | ((with_reducible refine (gsub (Q.alloc _).X (Q.alloc _).Y (by decide) (by decide)).mono ?_); rintro e w2 ⟨p5, A5, c5, l5, rfl, S5, hb⟩; have tC := (Two.new_ _ (.bool false) (.slice none 0 0) 24).below hb (Two.new_ _ (.bool false) (.slice none 0 0) 24).lt; have tC0 := tC.c0; have tC1 := tC.c1; have tC2 := tC.fr 0; have tC3 := tC.fr 1; have tCl := tC.lt; have tCp := Nat.ne_of_lt tC.lt; have tCq := Nat.ne_of_gt tC.lt; replace S4 := (S4.alloc _).below hb; replace Q := (Q.alloc _).below hb; have z2 := Q.size; clear hb) | ((with_reducible refine (gsub Q.X Q.Y (by decide) (by decide)).mono ?_); rintro e w2 ⟨p5, A5, c5, l5, rfl, S5, hb⟩; replace S4 := S4.below hb; replace Q := Q.below hb; have z2 := Q.size; clear hb))))
    all_goals
      go_wp2_with fail
      go_meet
      refine ⟨_, _, p4, A4, c4, l4, p5, A5, c5, l5, rfl, rfl, ?_, ?_, ?_, ?_, ?_⟩
      all_goals
        repeat' (first
          | (with_reducible exact Q) | (with_reducible exact tA) | (with_reducible exact tB) | (with_reducible exact tC) | (with_reducible exact tD)
          | (with_reducible refine pkQ_set ?_ ?_ ?_) | (with_reducible refine Q3.alloc ?_ _)
          | (with_reducible refine pkC_set ?_ ?_) | (with_reducible refine Cn.alloc ?_ _)
          | (with_reducible refine pkT_put ?_) | (with_reducible refine pkT_far ?_ ?_)
          | ((with_reducible refine pkT_new ?_); (first | rfl | (simp [World.setCell]; done)))
          | (with_reducible refine Two.alloc ?_ _)
          | exact S4 | exact S5
          | omega | (simp; omega) | (simp [World.setCell]; omega))
  case rest =>
    obtain ⟨g, h, p4, A4, c4, l4, p5, A5, c5, l5, rfl, rfl, i⟩ := hcut
    clear Q
    go_wp2_with fail
    replace i := i.drew
    go_region_held3 (fun w' => w'.cell? ⟨w.heap.size, 0, none⟩ = some (.bool nx) ∧ w'.cell? ⟨w.heap.size, 1, none⟩ = some (.slice A xs.length ca) ∧ w'.cell? ⟨w.heap.size + 1, 0, none⟩ = some (.bool ny) ∧ w'.cell? ⟨w.heap.size + 1, 1, none⟩ = some (.slice B ys.length cb) ∧ w'.cell? ⟨w.heap.size + 2, 0, none⟩ = some (.bool nz) ∧ w'.cell? ⟨w.heap.size + 2, 1, none⟩ = some (.slice C zs.length cc) ∧ w'.cell? ⟨g, 0, none⟩ = some (.bool p4) ∧ w'.cell? ⟨g, 1, none⟩ = some (.slice A4 l4.length c4) ∧ w'.cell? ⟨h, 0, none⟩ = some (.bool p5) ∧ w'.cell? ⟨h, 1, none⟩ = some (.slice A5 l5.length c5))
      (exact ⟨i.q.i.t1.c0, i.q.i.t1.c1, i.q.i.t2.c0, i.q.i.t2.c1, i.q.i.t3.c0, i.q.i.t3.c1, i.t4.c0, i.t4.c1, i.t5.c0, i.t5.c1⟩)
      (first
        | (go_at_call 34; (with_reducible refine (gradd i.q.X i.q.Y (by decide) (by decide)).mono ?_); rintro e w' ⟨p6, A6, c6, l6, rfl, S6, hb⟩; replace i := i.below hb; (try (replace S7 := S7.below hb)); clear hb)
        | (go_at_call 16; (with_reducible refine (gsame_t i.S S6 (by decide) (by decide) rfl).mono ?_); rintro e w' ⟨rfl, hb⟩; replace i := i.below hb; (try (replace S6 := S6.below hb)); (try (replace S7 := S7.below hb)); clear hb)
        | (go_at_call 35; (with_reducible refine (grsub i.q.X i.q.Y (by decide) (by decide)).mono ?_); rintro e w' ⟨p7, A7, c7, l7, rfl, S7, hb⟩; replace i := i.below hb; (try (replace S6 := S6.below hb)); clear hb)
        | (go_at_call 16; (with_reducible refine (gsame_t i.D S7 (by decide) (by decide) rfl).mono ?_); rintro e w' ⟨rfl, hb⟩; replace i := i.below hb; (try (replace S6 := S6.below hb)); (try (replace S7 := S7.below hb)); clear hb))
    all_goals
      clear S6 S7
      go_wp2_with fail
      replace i := i.drew
      go_region_held3 (fun w' => w'.cell? ⟨w.heap.size, 0, none⟩ = some (.bool nx) ∧ w'.cell? ⟨w.heap.size, 1, none⟩ = some (.slice A xs.length ca) ∧ w'.cell? ⟨w.heap.size + 1, 0, none⟩ = some (.bool ny) ∧ w'.cell? ⟨w.heap.size + 1, 1, none⟩ = some (.slice B ys.length cb) ∧ w'.cell? ⟨w.heap.size + 2, 0, none⟩ = some (.bool nz) ∧ w'.cell? ⟨w.heap.size + 2, 1, none⟩ = some (.slice C zs.length cc) ∧ w'.cell? ⟨g, 0, none⟩ = some (.bool p4) ∧ w'.cell? ⟨g, 1, none⟩ = some (.slice A4 l4.length c4) ∧ w'.cell? ⟨h, 0, none⟩ = some (.bool p5) ∧ w'.cell? ⟨h, 1, none⟩ = some (.slice A5 l5.length c5))
        (exact ⟨i.q.i.t1.c0, i.q.i.t1.c1, i.q.i.t2.c0, i.q.i.t2.c1, i.q.i.t3.c0, i.q.i.t3.c1, i.t4.c0, i.t4.c1, i.t5.c0, i.t5.c1⟩)
        (first
          | (go_at_call 32; (with_reducible refine (gadd i.q.Y i.q.X (by decide) (by decide)).mono ?_); rintro e w' ⟨p8, A8, c8, l8, rfl, S8, hb⟩; replace i := i.below hb; (try (replace S9 := S9.below hb)); (try (replace S10 := S10.below hb)); (try (replace S11 := S11.below hb)); (try (replace S12 := S12.below hb)); (try (replace S13 := S13.below hb)); (try (replace S14 := S14.below hb)); (try (replace S15 := S15.below hb)); clear hb)
          | (go_at_call 16; (with_reducible refine (gsame_t S8 i.S (by decide) (by decide) (Int.add_comm _ _)).mono ?_); rintro e w' ⟨rfl, hb⟩; replace i := i.below hb; (try (replace S8 := S8.below hb)); (try (replace S9 := S9.below hb)); (try (replace S10 := S10.below hb)); (try (replace S11 := S11.below hb)); (try (replace S12 := S12.below hb)); (try (replace S13 := S13.below hb)); (try (replace S14 := S14.below hb)); (try (replace S15 := S15.below hb)); clear hb)
          | (go_at_call 32; (with_reducible refine (gadd i.S.iv i.q.Z (by decide) (by decide)).mono ?_); rintro e w' ⟨p9, A9, c9, l9, rfl, S9, hb⟩; replace i := i.below hb; (try (replace S8 := S8.below hb)); (try (replace S10 := S10.below hb)); (try (replace S11 := S11.below hb)); (try (replace S12 := S12.below hb)); (try (replace S13 := S13.below hb)); (try (replace S14 := S14.below hb)); (try (replace S15 := S15.below hb)); clear hb)
          | (go_at_call 32; (with_reducible refine (gadd i.q.Y i.q.Z (by decide) (by decide)).mono ?_); rintro e w' ⟨p10, A10, c10, l10, rfl, S10, hb⟩; replace i := i.below hb; (try (replace S8 := S8.below hb)); (try (replace S9 := S9.below hb)); (try (replace S11 := S11.below hb)); (try (replace S12 := S12.below hb)); (try (replace S13 := S13.below hb)); (try (replace S14 := S14.below hb)); (try (replace S15 := S15.below hb)); clear hb)
          | (go_at_call 32; (with_reducible refine (gadd i.q.X S10.iv (by decide) (by decide)).mono ?_); rintro e w' ⟨p11, A11, c11, l11, rfl, S11, hb⟩; replace i := i.below hb; (try (replace S8 := S8.below hb)); (try (replace S9 := S9.below hb)); (try (replace S10 := S10.below hb)); (try (replace S12 := S12.below hb)); (try (replace S13 := S13.below hb)); (try (replace S14 := S14.below hb)); (try (replace S15 := S15.below hb)); clear hb)
          | (go_at_call 16; (with_reducible refine (gsame_t S9 S11 (by decide) (by decide) (Int.add_assoc _ _ _)).mono ?_); rintro e w' ⟨rfl, hb⟩; replace i := i.below hb; (try (replace S8 := S8.below hb)); (try (replace S9 := S9.below hb)); (try (replace S10 := S10.below hb)); (try (replace S11 := S11.below hb)); (try (replace S12 := S12.below hb)); (try (replace S13 := S13.below hb)); (try (replace S14 := S14.below hb)); (try (replace S15 := S15.below hb)); clear hb)
          | (go_at_call 33; (with_reducible refine (gsub i.S.iv i.q.Y (by decide) (by decide)).mono ?_); rintro e w' ⟨p12, A12, c12, l12, rfl, S12, hb⟩; replace i := i.below hb; (try (replace S8 := S8.below hb)); (try (replace S9 := S9.below hb)); (try (replace S10 := S10.below hb)); (try (replace S11 := S11.below hb)); (try (replace S13 := S13.below hb)); (try (replace S14 := S14.below hb)); (try (replace S15 := S15.below hb)); clear hb)
          | (go_at_call 15; (with_reducible refine (gclean i.q.X (by decide)).mono ?_); rintro e w' ⟨p13, A13, c13, l13, rfl, S13, hb⟩; replace i := i.below hb; (try (replace S8 := S8.below hb)); (try (replace S9 := S9.below hb)); (try (replace S10 := S10.below hb)); (try (replace S11 := S11.below hb)); (try (replace S12 := S12.below hb)); (try (replace S14 := S14.below hb)); (try (replace S15 := S15.below hb)); clear hb)
          | (go_at_call 16; (with_reducible refine (gsame_t S12 S13 (by decide) (by decide) (Int.add_sub_cancel _ _)).mono ?_); rintro e w' ⟨rfl, hb⟩; replace i := i.below hb; (try (replace S8 := S8.below hb)); (try (replace S9 := S9.below hb)); (try (replace S10 := S10.below hb)); (try (replace S11 := S11.below hb)); (try (replace S12 := S12.below hb)); (try (replace S13 := S13.below hb)); (try (replace S14 := S14.below hb)); (try (replace S15 := S15.below hb)); clear hb)
          | (go_at_call 33; (with_reducible refine (gsub i.q.Y i.q.X (by decide) (by decide)).mono ?_); rintro e w' ⟨p14, A14, c14, l14, rfl, S14, hb⟩; replace i := i.below hb; (try (replace S8 := S8.below hb)); (try (replace S9 := S9.below hb)); (try (replace S10 := S10.below hb)); (try (replace S11 := S11.below hb)); (try (replace S12 := S12.below hb)); (try (replace S13 := S13.below hb)); (try (replace S15 := S15.below hb)); clear hb)
          | (go_at_call 24; (with_reducible refine (gneg i.D.iv (by decide)).mono ?_); rintro e w' ⟨p15, A15, c15, l15, rfl, S15, hb⟩; replace i := i.below hb; (try (replace S8 := S8.below hb)); (try (replace S9 := S9.below hb)); (try (replace S10 := S10.below hb)); (try (replace S11 := S11.below hb)); (try (replace S12 := S12.below hb)); (try (replace S13 := S13.below hb)); (try (replace S14 := S14.below hb)); clear hb)
          | (go_at_call 16; (with_reducible refine (gsame_t S14 S15 (by decide) (by decide) (Int.neg_sub _ _).symm).mono ?_); rintro e w' ⟨rfl, hb⟩; replace i := i.below hb; (try (replace S8 := S8.below hb)); (try (replace S9 := S9.below hb)); (try (replace S10 := S10.below hb)); (try (replace S11 := S11.below hb)); (try (replace S12 := S12.below hb)); (try (replace S13 := S13.below hb)); (try (replace S14 := S14.below hb)); (try (replace S15 := S15.below hb)); clear hb))
      all_goals
        go_wp2_with fail
        go_ret
        exact ⟨by first | rfl | simp, i.q.i.bel⟩
end Go.Proofs.YtckenemkfegopaaDoor
