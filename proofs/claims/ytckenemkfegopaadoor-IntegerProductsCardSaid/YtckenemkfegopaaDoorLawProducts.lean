/- The law IntegerProducts, walked. -/
import Derived.Test.YtckenemkfegopaaDoorWn
namespace Go.Proofs.YtckenemkfegopaaDoor
open Go.RowKit
set_option linter.unusedVariables false

/-- the three boxes of the arguments and one more -/
structure A4 (w wr : World) (g : Nat) (p1 : Bool) (a1 : Option Addr) (n1 c1 : Nat) (p2 : Bool) (a2 : Option Addr) (n2 c2 : Nat) (p3 : Bool) (a3 : Option Addr) (n3 c3 : Nat) (p4 : Bool) (a4 : Option Addr) (n4 c4 : Nat) : Prop where
  a : A3 w wr p1 a1 n1 c1 p2 a2 n2 c2 p3 a3 n3 c3
  t4 : Two wr g (.bool p4) (.slice a4 n4 c4)
section
variable {w wr wx : World} {g : Nat} {p1 p2 p3 p4 : Bool} {a1 a2 a3 a4 : Option Addr} {n1 c1 n2 c2 n3 c3 n4 c4 : Nat}
theorem A4.below (h : A4 w wr g p1 a1 n1 c1 p2 a2 n2 c2 p3 a3 n3 c3 p4 a4 n4 c4) (hb : Below wr.heap.size wr wx) : A4 w wx g p1 a1 n1 c1 p2 a2 n2 c2 p3 a3 n3 c3 p4 a4 n4 c4 := ⟨h.a.below hb, h.t4.below hb h.t4.lt⟩
theorem A4.drew (h : A4 w wr g p1 a1 n1 c1 p2 a2 n2 c2 p3 a3 n3 c3 p4 a4 n4 c4) : A4 w wr.drew g p1 a1 n1 c1 p2 a2 n2 c2 p3 a3 n3 c3 p4 a4 n4 c4 := ⟨h.a.drew, h.t4.drew⟩
end

set_option maxRecDepth 100000 in
set_option maxHeartbeats 8000000 in
theorem products_walk (nx : Bool) (A : Option Addr) (ca : Nat) (xs : List Nat) (ny : Bool) (B : Option Addr) (cb : Nat) (ys : List Nat) (nz : Bool) (C : Option Addr) (cc : Nat) (zs : List Nat) (w : World) (hx : Sl w w.heap.size A ca xs) (hy : Sl w w.heap.size B cb ys) (hz : Sl w w.heap.size C cc zs) (ht : Tabs w) :
    Calls Tryd.prog 6 #[intV nx A xs.length ca, intV ny B ys.length cb, intV nz C zs.length cc] w fun e w' => e = .returned (.bool true) ∧ Below w.heap.size w w' := by
  unfold intV
  go_enter Tryd.func6, Tryd.ntmps6
  go_wp2_with fail
  have i := A3.new_ w nx A xs.length ca ny B ys.length cb nz C zs.length cc 24
  revert i
  generalize ((w.alloc (.cells #[.bool nx, .slice A xs.length ca] 24)).alloc (.cells #[.bool ny, .slice B ys.length cb] 24)).alloc (.cells #[.bool nz, .slice C zs.length cc] 24) = w1
  intro i
  refine (known_ok _ (ht.below i.bel)).mono ?_
  rintro e w2 ⟨rfl, hb⟩
  replace i := i.below hb
  clear hb
  have x0 := i.t1.c0
  have x1 := i.t1.c1
  have y0 := i.t2.c0
  have y1 := i.t2.c1
  have z0 := i.t3.c0
  have z1 := i.t3.c1
  rcases Decidable.em (¬ xs.length ≤ 10) with hxl | hxl
  · have HL := Lib.hid hxl
    clear hxl
    go_wp2_with fail
    refine (gshort_f _ HL.out).mono ?_
    rintro e w' ⟨rfl, hb⟩
    replace i := i.below hb
    clear x0 x1 y0 y1 z0 z1
    clear hb
    go_wp2_with fail
    go_ret
    exact ⟨rfl, i.bel⟩
  replace hxl : xs.length ≤ 10 := by omega
  rcases Decidable.em (¬ ys.length ≤ 10) with hyl | hyl
  · have HL := Lib.hid hyl
    clear hyl
    go_wp2_with fail
    refine (gshort_t _ hxl).mono ?_
    rintro e w' ⟨rfl, hb⟩
    replace i := i.below hb
    clear x0 x1 y0 y1 z0 z1
    clear hb
    have x0 := i.t1.c0
    have x1 := i.t1.c1
    have y0 := i.t2.c0
    have y1 := i.t2.c1
    have z0 := i.t3.c0
    have z1 := i.t3.c1
    go_wp2_with fail
    refine (gshort_f _ HL.out).mono ?_
    rintro e w' ⟨rfl, hb⟩
    replace i := i.below hb
    clear x0 x1 y0 y1 z0 z1
    clear hb
    go_wp2_with fail
    go_ret
    exact ⟨rfl, i.bel⟩
  replace hyl : ys.length ≤ 10 := by omega
  rcases Decidable.em (¬ zs.length ≤ 10) with hzl | hzl
  · have HL := Lib.hid hzl
    clear hzl
    go_wp2_with fail
    refine (gshort_t _ hxl).mono ?_
    rintro e w' ⟨rfl, hb⟩
    replace i := i.below hb
    clear x0 x1 y0 y1 z0 z1
    clear hb
    have x0 := i.t1.c0
    have x1 := i.t1.c1
    have y0 := i.t2.c0
    have y1 := i.t2.c1
    have z0 := i.t3.c0
    have z1 := i.t3.c1
    go_wp2_with fail
    refine (gshort_t _ hyl).mono ?_
    rintro e w' ⟨rfl, hb⟩
    replace i := i.below hb
    clear x0 x1 y0 y1 z0 z1
    clear hb
    have x0 := i.t1.c0
    have x1 := i.t1.c1
    have y0 := i.t2.c0
    have y1 := i.t2.c1
    have z0 := i.t3.c0
    have z1 := i.t3.c1
    go_wp2_with fail
    refine (gshort_f _ HL.out).mono ?_
    rintro e w' ⟨rfl, hb⟩
    replace i := i.below hb
    clear x0 x1 y0 y1 z0 z1
    clear hb
    go_wp2_with fail
    go_ret
    exact ⟨rfl, i.bel⟩
  replace hzl : zs.length ≤ 10 := by omega
  go_wp2_with fail
  refine (gshort_t _ hxl).mono ?_
  rintro e w' ⟨rfl, hb⟩
  replace i := i.below hb
  clear x0 x1 y0 y1 z0 z1
  clear hb
  have x0 := i.t1.c0
  have x1 := i.t1.c1
  have y0 := i.t2.c0
  have y1 := i.t2.c1
  have z0 := i.t3.c0
  have z1 := i.t3.c1
  go_wp2_with fail
  refine (gshort_t _ hyl).mono ?_
  rintro e w' ⟨rfl, hb⟩
  replace i := i.below hb
  clear x0 x1 y0 y1 z0 z1
  clear hb
  have x0 := i.t1.c0
  have x1 := i.t1.c1
  have y0 := i.t2.c0
  have y1 := i.t2.c1
  have z0 := i.t3.c0
  have z1 := i.t3.c1
  go_wp2_with fail
  refine (gshort_t _ hzl).mono ?_
  rintro e w' ⟨rfl, hb⟩
  replace i := i.below hb
  clear x0 x1 y0 y1 z0 z1
  clear hb
  have x0 := i.t1.c0
  have x1 := i.t1.c1
  have y0 := i.t2.c0
  have y1 := i.t2.c1
  have z0 := i.t3.c0
  have z1 := i.t3.c1
  obtain ⟨x, hxv⟩ : ∃ x : Int, x = Kn.iv nx xs := ⟨_, rfl⟩
  obtain ⟨y, hyv⟩ : ∃ y : Int, y = Kn.iv ny ys := ⟨_, rfl⟩
  obtain ⟨z, hzv⟩ : ∃ z : Int, z = Kn.iv nz zs := ⟨_, rfl⟩
  have X : Iv _ nx A ca xs x 10 := ⟨(hx.below i.bel).more i.bel.size, hxv.symm, hxl⟩
  have Y : Iv _ ny B cb ys y 10 := ⟨(hy.below i.bel).more i.bel.size, hyv.symm, hyl⟩
  have Z : Iv _ nz C cc zs z 10 := ⟨(hz.below i.bel).more i.bel.size, hzv.symm, hzl⟩
  clear hxv hyv hzv
  clear hx hy hz hxl hyl hzl
  go_wp2_with fail
  refine (gmul X Y (by decide) (by decide)).mono ?_
  rintro e w' ⟨p1, A1, c1, l1, rfl, S1, hb⟩
  replace i := i.below hb
  replace X := X.below hb
  replace Y := Y.below hb
  replace Z := Z.below hb
  clear x0 x1 y0 y1 z0 z1
  clear hb
  go_wp2_with fail
  have j : A4 w (w'.alloc (.cells #[.bool p1, .slice A1 l1.length c1] 24)) w'.heap.size nx A xs.length ca ny B ys.length cb nz C zs.length cc p1 A1 l1.length c1 := ⟨i.alloc _, Two.new_ _ _ _ _⟩
  replace X := X.alloc (.cells #[.bool p1, .slice A1 l1.length c1] 24)
  replace Y := Y.alloc (.cells #[.bool p1, .slice A1 l1.length c1] 24)
  replace Z := Z.alloc (.cells #[.bool p1, .slice A1 l1.length c1] 24)
  replace S1 := S1.alloc (.cells #[.bool p1, .slice A1 l1.length c1] 24)
  clear i
  revert j X Y Z S1
  generalize w'.alloc (.cells #[.bool p1, .slice A1 l1.length c1] 24) = w3
  generalize w'.heap.size = g
  intro i X Y Z S1
  replace i := i.drew
  replace X := X.drew
  replace Y := Y.drew
  replace Z := Z.drew
  replace S1 := S1.drew
  go_region_held3 (fun w' => w'.cell? ⟨w.heap.size, 0, none⟩ = some (.bool nx) ∧ w'.cell? ⟨w.heap.size, 1, none⟩ = some (.slice A xs.length ca) ∧ w'.cell? ⟨w.heap.size + 1, 0, none⟩ = some (.bool ny) ∧ w'.cell? ⟨w.heap.size + 1, 1, none⟩ = some (.slice B ys.length cb) ∧ w'.cell? ⟨w.heap.size + 2, 0, none⟩ = some (.bool nz) ∧ w'.cell? ⟨w.heap.size + 2, 1, none⟩ = some (.slice C zs.length cc) ∧ w'.cell? ⟨g, 0, none⟩ = some (.bool p1) ∧ w'.cell? ⟨g, 1, none⟩ = some (.slice A1 l1.length c1))
    (exact ⟨i.a.t1.c0, i.a.t1.c1, i.a.t2.c0, i.a.t2.c1, i.a.t3.c0, i.a.t3.c1, i.t4.c0, i.t4.c1⟩)
    (first
      | (go_at_call 37; (with_reducible refine (grmul X Y (by decide) (by decide)).mono ?_); rintro e w' ⟨p2, A2, c2, l2, rfl, S2, hb⟩; replace i := i.below hb; replace X := X.below hb; replace Y := Y.below hb; replace Z := Z.below hb; replace S1 := S1.below hb; (try (replace S3 := S3.below hb)); (try (replace S4 := S4.below hb)); (try (replace S5 := S5.below hb)); (try (replace S6 := S6.below hb)); (try (replace S7 := S7.below hb)); clear hb)
      | (go_at_call 16; (with_reducible refine (gsame_t S1 S2 (by decide) (by decide) rfl).mono ?_); rintro e w' ⟨rfl, hb⟩; replace i := i.below hb; replace X := X.below hb; replace Y := Y.below hb; replace Z := Z.below hb; replace S1 := S1.below hb; (try (replace S2 := S2.below hb)); (try (replace S3 := S3.below hb)); (try (replace S4 := S4.below hb)); (try (replace S5 := S5.below hb)); (try (replace S6 := S6.below hb)); (try (replace S7 := S7.below hb)); clear hb)
      | (go_at_call 36; (with_reducible refine (gmul Y X (by decide) (by decide)).mono ?_); rintro e w' ⟨p3, A3_, c3, l3, rfl, S3, hb⟩; replace i := i.below hb; replace X := X.below hb; replace Y := Y.below hb; replace Z := Z.below hb; replace S1 := S1.below hb; (try (replace S2 := S2.below hb)); (try (replace S4 := S4.below hb)); (try (replace S5 := S5.below hb)); (try (replace S6 := S6.below hb)); (try (replace S7 := S7.below hb)); clear hb)
      | (go_at_call 16; (with_reducible refine (gsame_t S3 S1 (by decide) (by decide) (Int.mul_comm _ _)).mono ?_); rintro e w' ⟨rfl, hb⟩; replace i := i.below hb; replace X := X.below hb; replace Y := Y.below hb; replace Z := Z.below hb; replace S1 := S1.below hb; (try (replace S2 := S2.below hb)); (try (replace S3 := S3.below hb)); (try (replace S4 := S4.below hb)); (try (replace S5 := S5.below hb)); (try (replace S6 := S6.below hb)); (try (replace S7 := S7.below hb)); clear hb)
      | (go_at_call 32; (with_reducible refine (gadd Y Z (by decide) (by decide)).mono ?_); rintro e w' ⟨p4, A4_, c4, l4, rfl, S4, hb⟩; replace i := i.below hb; replace X := X.below hb; replace Y := Y.below hb; replace Z := Z.below hb; replace S1 := S1.below hb; (try (replace S2 := S2.below hb)); (try (replace S3 := S3.below hb)); (try (replace S5 := S5.below hb)); (try (replace S6 := S6.below hb)); (try (replace S7 := S7.below hb)); clear hb)
      | (go_at_call 36; (with_reducible refine (gmul X S4.iv (by decide) (by decide)).mono ?_); rintro e w' ⟨p5, A5, c5, l5, rfl, S5, hb⟩; replace i := i.below hb; replace X := X.below hb; replace Y := Y.below hb; replace Z := Z.below hb; replace S1 := S1.below hb; (try (replace S2 := S2.below hb)); (try (replace S3 := S3.below hb)); (try (replace S4 := S4.below hb)); (try (replace S6 := S6.below hb)); (try (replace S7 := S7.below hb)); clear hb)
      | (go_at_call 36; (with_reducible refine (gmul X Z (by decide) (by decide)).mono ?_); rintro e w' ⟨p6, A6, c6, l6, rfl, S6, hb⟩; replace i := i.below hb; replace X := X.below hb; replace Y := Y.below hb; replace Z := Z.below hb; replace S1 := S1.below hb; (try (replace S2 := S2.below hb)); (try (replace S3 := S3.below hb)); (try (replace S4 := S4.below hb)); (try (replace S5 := S5.below hb)); (try (replace S7 := S7.below hb)); clear hb)
      | (go_at_call 32; (with_reducible refine (gadd S1.iv S6.iv (by decide) (by decide)).mono ?_); rintro e w' ⟨p7, A7, c7, l7, rfl, S7, hb⟩; replace i := i.below hb; replace X := X.below hb; replace Y := Y.below hb; replace Z := Z.below hb; replace S1 := S1.below hb; (try (replace S2 := S2.below hb)); (try (replace S3 := S3.below hb)); (try (replace S4 := S4.below hb)); (try (replace S5 := S5.below hb)); (try (replace S6 := S6.below hb)); clear hb)
      | (go_at_call 16; (with_reducible refine (gsame_t S5 S7 (by decide) (by decide) (Int.mul_add _ _ _)).mono ?_); rintro e w' ⟨rfl, hb⟩; replace i := i.below hb; replace X := X.below hb; replace Y := Y.below hb; replace Z := Z.below hb; replace S1 := S1.below hb; (try (replace S2 := S2.below hb)); (try (replace S3 := S3.below hb)); (try (replace S4 := S4.below hb)); (try (replace S5 := S5.below hb)); (try (replace S6 := S6.below hb)); (try (replace S7 := S7.below hb)); clear hb))
  all_goals
    go_wp2_with fail
    go_ret
    exact ⟨by first | rfl | simp, i.a.bel⟩
end Go.Proofs.YtckenemkfegopaaDoor
