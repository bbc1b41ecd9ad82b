/- My texts, packed: E2, E3, G2. -/
import Derived.Test.YtkpomjdablopaaaGreatDoorZ8
import Derived.Test.YtkpomjdablopaaaGreatDoorZ6
import Derived.Deep.RegionLawGrows
/- Words for the walks of the reference's Divide. -/
namespace Go.Proofs.YtkpomjdablopaaaGreatDoor
open Go.RowKit
set_option linter.unusedVariables false

theorem B4.far {w wr : World} {nx ny : Bool} {A B : Option Addr} {n m ca cb : Nat} (h : B4 w wr nx A n ca ny B m cb) {g : Nat} (hg : w.heap.size + 3 < g) (u v : Value) :
    B4 w ((wr.setCell ⟨g, 0, none⟩ u).setCell ⟨g, 1, none⟩ v) nx A n ca ny B m cb :=
  ⟨(h.t1.far (by simp; omega) _).far (by simp; omega) _, (h.t2.far (by simp; omega) _).far (by simp; omega) _, (h.t3.far (by simp; omega) _).far (by simp; omega) _, (h.t4.far (by simp; omega) _).far (by simp; omega) _, (h.bel.setCell (p := ⟨g, 0, none⟩) (by simp; omega) _).setCell (p := ⟨g, 1, none⟩) (by simp; omega) _⟩
/-- the world of the reference's Divide: both arguments, and the quotient in a box -/
structure Dq (w wr : World) (nx : Bool) (A : Option Addr) (ca : Nat) (xs : List Nat) (ny : Bool) (B : Option Addr) (cb : Nat) (ys : List Nat) (g : Nat) (C : Option Addr) (cc : Nat) (z : Int) : Prop where
  i : B4 w wr nx A xs.length ca ny B ys.length cb
  x : Sl wr wr.heap.size A ca xs
  y : Sl wr wr.heap.size B cb ys
  t5 : Two wr g (.bool (decide (z < 0))) (.slice C (Kn.dig z.natAbs).length cc)
  q : Sl wr wr.heap.size C cc (Kn.dig z.natAbs)
  hg : w.heap.size + 3 < g
section
variable {w wr wx : World} {nx ny : Bool} {A B C : Option Addr} {ca cb cc g : Nat} {xs ys : List Nat} {z : Int}
theorem Dq.below (h : Dq w wr nx A ca xs ny B cb ys g C cc z) (hb : Below wr.heap.size wr wx) : Dq w wx nx A ca xs ny B cb ys g C cc z := ⟨h.i.below hb, h.x.nx hb, h.y.nx hb, h.t5.below hb h.t5.lt, h.q.nx hb, h.hg⟩
theorem Dq.drew (h : Dq w wr nx A ca xs ny B cb ys g C cc z) : Dq w wr.drew nx A ca xs ny B cb ys g C cc z := ⟨h.i.drew, h.x.drew, h.y.drew, h.t5.drew, h.q.drew, h.hg⟩
theorem Dq.put (h : Dq w wr nx A ca xs ny B cb ys g C cc z) {D : Option Addr} {d : Nat} {z' : Int} (hq : Sl wr wr.heap.size D d (Kn.dig z'.natAbs)) :
    Dq w ((wr.setCell ⟨g, 0, none⟩ (.bool (decide (z' < 0)))).setCell ⟨g, 1, none⟩ (.slice D (Kn.dig z'.natAbs).length d)) nx A ca xs ny B cb ys g D d z' :=
  ⟨h.i.far h.hg _ _, (h.x.put h.t5 _ _).more (by simp [World.setCell]), (h.y.put h.t5 _ _).more (by simp [World.setCell]), h.t5.put _ _, (hq.put h.t5 _ _).more (by simp [World.setCell]), h.hg⟩
theorem Dq.name (h : Dq w wr nx A ca xs ny B cb ys g C cc z) : ∃ W, W = wr := ⟨_, rfl⟩
theorem Dq.of (i : B4 w wr nx A xs.length ca ny B ys.length cb) (x : Sl wr wr.heap.size A ca xs) (y : Sl wr wr.heap.size B cb ys) (q : Sl wr wr.heap.size C cc (Kn.dig z.natAbs)) (T : TypeId) :
    Dq w (wr.alloc (.cells #[.bool (decide (z < 0)), .slice C (Kn.dig z.natAbs).length cc] T)) nx A ca xs ny B cb ys wr.heap.size C cc z :=
  ⟨i.below (al1 _ _), x.nx (al1 _ _), y.nx (al1 _ _), Two.new_ _ _ _ _, q.nx (al1 _ _), i.t4.lt⟩
end
theorem far2' {W : World} {g b j : Nat} {u v x : Value} (h : W.cell? ⟨b, j, none⟩ = some x) (hne : b ≠ g) : ((W.setCell ⟨g, 0, none⟩ u).setCell ⟨g, 1, none⟩ v).cell? ⟨b, j, none⟩ = some x := by
  have q : ∀ (W : World) (i : Nat) (y : Value), (W.setCell ⟨g, i, none⟩ y).cell? ⟨b, j, none⟩ = W.cell? ⟨b, j, none⟩ := fun W i y => World.cell?_of_block (w := W) (Below.heap_setCell W ⟨g, i, none⟩ y b hne)
  rw [q, q]; exact h
theorem six_far {w wr : World} {nx ny : Bool} {A B C : Option Addr} {ca cb cc g : Nat} {xs ys : List Nat} {z : Int} (h : Dq w wr nx A ca xs ny B cb ys g C cc z) {b : Nat} (h1 : w.heap.size ≠ b) (h2 : w.heap.size + 1 ≠ b) (h3 : g ≠ b) (u v : Value) :
    ((wr.setCell ⟨b, 0, none⟩ u).setCell ⟨b, 1, none⟩ v).cell? ⟨g, 0, none⟩ = some (.bool (decide (z < 0))) ∧ ((wr.setCell ⟨b, 0, none⟩ u).setCell ⟨b, 1, none⟩ v).cell? ⟨g, 1, none⟩ = some (.slice C (Kn.dig z.natAbs).length cc) ∧
    ((wr.setCell ⟨b, 0, none⟩ u).setCell ⟨b, 1, none⟩ v).cell? ⟨w.heap.size, 0, none⟩ = some (.bool nx) ∧ ((wr.setCell ⟨b, 0, none⟩ u).setCell ⟨b, 1, none⟩ v).cell? ⟨w.heap.size, 1, none⟩ = some (.slice A xs.length ca) ∧
    ((wr.setCell ⟨b, 0, none⟩ u).setCell ⟨b, 1, none⟩ v).cell? ⟨w.heap.size + 1, 0, none⟩ = some (.bool ny) ∧ ((wr.setCell ⟨b, 0, none⟩ u).setCell ⟨b, 1, none⟩ v).cell? ⟨w.heap.size + 1, 1, none⟩ = some (.slice B ys.length cb) :=
  ⟨far2' h.t5.c0 h3, far2' h.t5.c1 h3, far2' h.i.t1.c0 h1, far2' h.i.t1.c1 h1, far2' h.i.t2.c0 h2, far2' h.i.t2.c1 h2⟩
theorem six_far2 {W : World} {g a1 a2 : Nat} {x1 x2 x3 x4 x5 x6 : Value} (h : W.cell? ⟨g, 0, none⟩ = some x1 ∧ W.cell? ⟨g, 1, none⟩ = some x2 ∧ W.cell? ⟨a1, 0, none⟩ = some x3 ∧ W.cell? ⟨a1, 1, none⟩ = some x4 ∧ W.cell? ⟨a2, 0, none⟩ = some x5 ∧ W.cell? ⟨a2, 1, none⟩ = some x6) {b : Nat} (h1 : a1 ≠ b) (h2 : a2 ≠ b) (h3 : g ≠ b) (u v : Value) :
    ((W.setCell ⟨b, 0, none⟩ u).setCell ⟨b, 1, none⟩ v).cell? ⟨g, 0, none⟩ = some x1 ∧ ((W.setCell ⟨b, 0, none⟩ u).setCell ⟨b, 1, none⟩ v).cell? ⟨g, 1, none⟩ = some x2 ∧ ((W.setCell ⟨b, 0, none⟩ u).setCell ⟨b, 1, none⟩ v).cell? ⟨a1, 0, none⟩ = some x3 ∧ ((W.setCell ⟨b, 0, none⟩ u).setCell ⟨b, 1, none⟩ v).cell? ⟨a1, 1, none⟩ = some x4 ∧
    ((W.setCell ⟨b, 0, none⟩ u).setCell ⟨b, 1, none⟩ v).cell? ⟨a2, 0, none⟩ = some x5 ∧ ((W.setCell ⟨b, 0, none⟩ u).setCell ⟨b, 1, none⟩ v).cell? ⟨a2, 1, none⟩ = some x6 :=
  ⟨far2' h.1 h3, far2' h.2.1 h3, far2' h.2.2.1 h1, far2' h.2.2.2.1 h1, far2' h.2.2.2.2.1 h2, far2' h.2.2.2.2.2 h2⟩
theorem fmod_sub (x y : Int) : x.fmod y = x - x.fdiv y * y := by rw [Int.fmod_def, Int.mul_comm]
end Go.Proofs.YtkpomjdablopaaaGreatDoor
/- Walks: the reference's Divide, equal signs. -/
namespace Go.Proofs.YtkpomjdablopaaaGreatDoor
open Go.RowKit
set_option linter.unusedVariables false

set_option maxRecDepth 100000 in
set_option maxHeartbeats 3000000 in
theorem rdivide_same (nx : Bool) (A : Option Addr) (ca : Nat) (xs : List Nat) (ny : Bool) (B : Option Addr) (cb : Nat) (ys : List Nat) (w : World) (hx : Sl w w.heap.size A ca xs) (hy : Sl w w.heap.size B cb ys) (hlx : xs.length ≤ 99999) (hly : ys.length ≤ 99999) (h0 : 0 < Kn.val ys) (hn : nx = ny) :
    Calls Tryz.prog 73 #[intV nx A xs.length ca, intV ny B ys.length cb] w (IntRes2 ((Kn.iv nx xs).fdiv (Kn.iv ny ys)) ((Kn.iv nx xs).fmod (Kn.iv ny ys)) w) := by
  rw [fmod_sub]
  obtain ⟨za, hza⟩ : ∃ z : Int, z = (Kn.iv nx xs).fdiv (Kn.iv ny ys) := ⟨_, rfl⟩
  rw [← hza]
  have hdx : (Kn.dig (Kn.val xs)).length ≤ 99999 := Nat.le_trans (Kn.dig_len_val hx.wd) hlx
  have hdy : (Kn.dig (Kn.val ys)).length ≤ 99999 := Nat.le_trans (Kn.dig_len_val hy.wd) hly
  have hdp : 0 < (Kn.dig (Kn.val ys)).length := Kn.dig_len_pos.2 h0
  have gz : (((Kn.dig (Kn.val ys)).length : Int) == 0) = false := by rw [beq_eq_false_iff_ne]; omega
  obtain ⟨Q0, hQ0⟩ : ∃ R, Hid (R = Kn.val xs / Kn.val ys) := ⟨_, Lib.hid rfl⟩
  obtain ⟨R0, hR0⟩ : ∃ R, Hid (R = Kn.val xs % Kn.val ys) := ⟨_, Lib.hid rfl⟩
  have hQL : (Kn.dig Q0).length ≤ 99999 := by rw [hQ0.out]; exact Nat.le_trans (Kn.dig_len_le (Nat.lt_of_le_of_lt (Nat.div_le_self _ _) Kn.dig_lt)) hdx
  have hRL : (Kn.dig R0).length ≤ 99999 := by rw [hR0.out]; exact Nat.le_trans (Kn.dig_len_le (Nat.lt_trans (Nat.mod_lt _ h0) Kn.dig_lt)) hdy
  obtain ⟨x, hxv⟩ : ∃ x, Hid (x = Kn.iv nx xs) := ⟨_, Lib.hid rfl⟩
  obtain ⟨y, hyv⟩ : ∃ x, Hid (x = Kn.iv ny ys) := ⟨_, Lib.hid rfl⟩
  rw [← hxv.out, ← hyv.out]
  unfold intV
  have HDV := Lib.hid (fun (W : World) (A1 : Option Addr) (c1 : Nat) (B1 : Option Addr) (d1 : Nat) (h1 : Sl W W.heap.size A1 c1 (Kn.dig (Kn.val xs))) (h2 : Sl W W.heap.size B1 d1 (Kn.dig (Kn.val ys))) => (by have := rdivWords_any (Kn.val xs) (Kn.val ys) A1 c1 B1 d1 W h1 h2 h0 (by omega) (by omega); rwa [← hQ0.out, ← hR0.out] at this : Calls Tryz.prog 67 #[.slice A1 (Kn.dig (Kn.val xs)).length c1, .slice B1 (Kn.dig (Kn.val ys)).length d1] W (DivRes Q0 R0 W)))
  have HTX := Lib.hid (fun (W : World) (h : Sl W W.heap.size A ca xs) => rtrim_any A ca xs W h (by omega))
  have HTY := Lib.hid (fun (W : World) (h : Sl W W.heap.size B cb ys) => rtrim_any B cb ys W h (by omega))
  subst hn
  have F1 := (Kn.fd_same nx (xs := xs) h0).1
  rw [← hza, ← hQ0.out] at F1
  have HMD := Lib.hid (fun (W : World) (A1 : Option Addr) (c1 : Nat) (h : Sl W W.heap.size A1 c1 (Kn.dig Q0)) => (by have := made_any false A1 c1 (Kn.dig Q0) W h (by omega); rwa [← F1] at this : Calls Tryz.prog 76 #[.bool false, .slice A1 (Kn.dig Q0).length c1] W (IntRes za W)))
  have hzL : (Kn.dig za.natAbs).length ≤ 100000 := by rw [F1, Kn.iv_natAbs, Kn.val_dig]; omega
  have HML := Lib.hid (fun (W : World) (D : Option Addr) (d : Nat) (h1 : Sl W W.heap.size D d (Kn.dig za.natAbs)) (h2 : Sl W W.heap.size B cb ys) => (by have := rmul_any (decide (za < 0)) D d (Kn.dig za.natAbs) nx B cb ys W h1 h2 (by omega) (by omega); rwa [Kn.iv_dig, ← hyv.out] at this : Calls Tryz.prog 75 #[intV (decide (za < 0)) D (Kn.dig za.natAbs).length d, intV nx B ys.length cb] W (IntRes (za * y) W)))
  obtain ⟨P, hP⟩ : ∃ P, Hid (P = za * y) := ⟨_, Lib.hid rfl⟩
  have hPL : (Kn.dig P.natAbs).length ≤ 200000 := by
    refine Kn.dig_len_le ?_
    rw [hP.out, Int.natAbs_mul]
    have h1 : za.natAbs < Kn.pw 100000 := Nat.lt_of_lt_of_le Kn.dig_lt (Kn.pw_mono hzL)
    have h2 : y.natAbs < Kn.pw 100000 := by rw [hyv.out, Kn.iv_natAbs]; exact Nat.lt_of_lt_of_le (Kn.val_lt hy.wd) (Kn.pw_mono (by omega))
    have := Nat.mul_lt_mul'' h1 h2
    rwa [← Kn.pw_add] at this
  rw [← hP.out] at HML ⊢
  obtain ⟨zr, hzr⟩ : ∃ z, Hid (z = x - P) := ⟨_, Lib.hid rfl⟩
  have HSB := Lib.hid (fun (W : World) (D : Option Addr) (d : Nat) (h1 : Sl W W.heap.size A ca xs) (h2 : Sl W W.heap.size D d (Kn.dig P.natAbs)) => (by have := rsub_any nx A ca xs (decide (P < 0)) D d (Kn.dig P.natAbs) W h1 h2 (by omega) (by omega); rwa [Kn.iv_dig, ← hxv.out, ← hzr.out] at this : Calls Tryz.prog 112 #[intV nx A xs.length ca, intV (decide (P < 0)) D (Kn.dig P.natAbs).length d] W (IntRes zr W)))
  rw [← hzr.out]
  unfold intV at HML HSB
  clear F1
  clear hza
  go_enter Tryz.func73, Tryz.ntmps73
  go_wp2_with fail
  have i := B4.new_ w nx A xs.length ca nx B ys.length cb 24
  revert i
  generalize (((w.alloc (.cells #[.bool nx, .slice A xs.length ca] 24)).alloc (.cells #[.bool nx, .slice B ys.length cb] 24)).alloc (.cells #[.bool false, .slice none 0 0] 24)).alloc (.cells #[.bool false, .slice none 0 0] 24) = wx
  intro i
  replace i := i.drew
  have hX := (hx.below i.bel).more i.bel.size
  have hY := (hy.below i.bel).more i.bel.size
  go_region_held3 (fun w' => w'.cell? ⟨w.heap.size, 1, none⟩ = some (.slice A xs.length ca) ∧ w'.cell? ⟨w.heap.size + 1, 1, none⟩ = some (.slice B ys.length cb))
    (with_reducible exact ⟨i.t1.c1, i.t2.c1⟩)
    (first
      | (go_at_call 66; (with_reducible refine (HTX.out _ hX).mono ?_); rintro e w2 ⟨A1, c1, rfl, S1, hb⟩; replace i := i.below hb; replace hX := hX.nx hb; replace hY := hY.nx hb; clear hb)
      | (go_at_call 66; (with_reducible refine (HTY.out _ hY).mono ?_); rintro e w3 ⟨B1, d1, rfl, S2, hb⟩; replace i := i.below hb; replace hX := hX.nx hb; replace hY := hY.nx hb; replace S1 := S1.nx hb; clear hb))
  go_wp2_with fail
  refine (HDV.out _ _ _ _ _ S1 S2).mono ?_
  rintro e w4 ⟨A2, c2, B2, d2, rfl, hQ, hR, hb⟩
  replace i := i.below hb
  replace hX := hX.nx hb
  replace hY := hY.nx hb
  clear hb S1 S2
  have x0 := i.t1.c0
  have y0 := i.t2.c0
  go_wp2_with fail
  refine (HMD.out _ _ _ hQ).mono ?_
  rintro e w5 ⟨A3, c3, rfl, S3, hb⟩
  replace i := i.below hb
  replace hX := hX.nx hb
  replace hY := hY.nx hb
  clear hb hQ hR x0 y0
  have I := Dq.of i hX hY S3 24
  have x0 : (w5.alloc (.cells #[.bool (decide (za < 0)), .slice A3 (Kn.dig (za).natAbs).length c3] 24)).cell? ⟨w.heap.size, 0, none⟩ = some (.bool nx) := I.i.t1.c0
  have y0 : (w5.alloc (.cells #[.bool (decide (za < 0)), .slice A3 (Kn.dig (za).natAbs).length c3] 24)).cell? ⟨w.heap.size + 1, 0, none⟩ = some (.bool nx) := I.i.t2.c0
  clear i hX hY S3
  go_wp2_with fail
  clear x0 y0
  revert I
  generalize w5.alloc (.cells #[.bool (decide (za < 0)), .slice A3 (Kn.dig (za).natAbs).length c3] 24) = w6
  generalize w5.heap.size = g
  intro I
  replace I := I.drew
  go_region_held3 (fun w' => w'.cell? ⟨g, 0, none⟩ = some (.bool (decide (za < 0))) ∧ w'.cell? ⟨g, 1, none⟩ = some (.slice A3 (Kn.dig za.natAbs).length c3) ∧ w'.cell? ⟨w.heap.size, 0, none⟩ = some (.bool nx) ∧ w'.cell? ⟨w.heap.size, 1, none⟩ = some (.slice A xs.length ca) ∧ w'.cell? ⟨w.heap.size + 1, 0, none⟩ = some (.bool nx) ∧ w'.cell? ⟨w.heap.size + 1, 1, none⟩ = some (.slice B ys.length cb))
    (first | with_reducible exact ⟨I.t5.c0, I.t5.c1, I.i.t1.c0, I.i.t1.c1, I.i.t2.c0, I.i.t2.c1⟩ | with_reducible exact ⟨K3.1, K3.2.1, K3.2.2.1, K3.2.2.2.1, K3.2.2.2.2.1, K3.2.2.2.2.2⟩ | with_reducible exact ⟨K4.1, K4.2.1, K4.2.2.1, K4.2.2.2.1, K4.2.2.2.2.1, K4.2.2.2.2.2⟩)
    (first
      | (go_at_call 75; (with_reducible refine (HML.out _ _ _ I.q I.y).mono ?_); rintro e w7 ⟨A7, c7, rfl, S7, hb⟩; replace I := I.below hb; clear hb)
      | (go_at_call 112; (with_reducible refine (HSB.out _ _ _ I.x S7).mono ?_); rintro e w8 ⟨A8, c8, rfl, S8, hb⟩; replace I := I.below hb; clear hb;
          have T3 := I.i.t3; have d20 := T3.c0; have d21 := T3.c1; have f20 := T3.fr 0; have f21 := T3.fr 1;
          have T4 : Two ((w8.setCell ⟨w.heap.size + 2, 0, none⟩ (.bool (decide (za < 0)))).setCell ⟨w.heap.size + 2, 1, none⟩ (.slice A3 (Kn.dig za.natAbs).length c3)) (w.heap.size + 3) (.bool false) (.slice none 0 0) := (I.i.t4.far (by simp) _).far (by simp) _;
          have d30 := T4.c0; have d31 := T4.c1; have f30 := T4.fr 0; have f31 := T4.fr 1;
          have K3 := six_far I (b := w.heap.size + 2) (by omega) (by omega) (by have := I.hg; omega) (.bool (decide (za < 0))) (.slice A3 (Kn.dig za.natAbs).length c3);
          have K4 := six_far2 K3 (b := w.heap.size + 3) (by omega) (by omega) (by have := I.hg; omega) (.bool (decide (zr < 0))) (.slice A8 (Kn.dig zr.natAbs).length c8)))
  all_goals
    have R := Lib.hid (four_set w8 (b := w.heap.size + 2) (b' := w.heap.size + 3) (by omega) (.bool (decide (za < 0))) (.slice A3 (Kn.dig za.natAbs).length c3) (.bool (decide (zr < 0))) (.slice A8 (Kn.dig zr.natAbs).length c8) I.i.t3.c0 I.i.t3.c1 I.i.t4.c0 I.i.t4.c1)
    clear d20 d21 f20 f21 d30 d31 f30 f31 T3 T4 K3 K4
    go_wp2_with fail
    obtain ⟨r0, r1, r2, r3⟩ := R.out
    refine bodyPost_ret (v := .tuple #[.agg #[.bool (decide (za < 0)), .slice A3 (Kn.dig za.natAbs).length c3], .agg #[.bool (decide (zr < 0)), .slice A8 (Kn.dig zr.natAbs).length c8], .int .i64 0]) (by simp [results, Tryz.results73, go_sem, r0, r1, r2, r3]) rfl ?_
    exact I.i.fin I.q S8 _ _ _ _
end Go.Proofs.YtkpomjdablopaaaGreatDoor
/- Walks: the reference's Divide, other signs, nothing left. -/
namespace Go.Proofs.YtkpomjdablopaaaGreatDoor
open Go.RowKit
set_option linter.unusedVariables false

set_option maxRecDepth 100000 in
set_option maxHeartbeats 3000000 in
theorem rdivide_diff0 (nx : Bool) (A : Option Addr) (ca : Nat) (xs : List Nat) (ny : Bool) (B : Option Addr) (cb : Nat) (ys : List Nat) (w : World) (hx : Sl w w.heap.size A ca xs) (hy : Sl w w.heap.size B cb ys) (hlx : xs.length ≤ 99999) (hly : ys.length ≤ 99999) (h0 : 0 < Kn.val ys) (hn : nx ≠ ny) (hr : Kn.val xs % Kn.val ys = 0) :
    Calls Tryz.prog 73 #[intV nx A xs.length ca, intV ny B ys.length cb] w (IntRes2 ((Kn.iv nx xs).fdiv (Kn.iv ny ys)) ((Kn.iv nx xs).fmod (Kn.iv ny ys)) w) := by
  rw [fmod_sub]
  obtain ⟨za, hza⟩ : ∃ z : Int, z = (Kn.iv nx xs).fdiv (Kn.iv ny ys) := ⟨_, rfl⟩
  rw [← hza]
  have hdx : (Kn.dig (Kn.val xs)).length ≤ 99999 := Nat.le_trans (Kn.dig_len_val hx.wd) hlx
  have hdy : (Kn.dig (Kn.val ys)).length ≤ 99999 := Nat.le_trans (Kn.dig_len_val hy.wd) hly
  have hdp : 0 < (Kn.dig (Kn.val ys)).length := Kn.dig_len_pos.2 h0
  have gz : (((Kn.dig (Kn.val ys)).length : Int) == 0) = false := by rw [beq_eq_false_iff_ne]; omega
  obtain ⟨Q0, hQ0⟩ : ∃ R, Hid (R = Kn.val xs / Kn.val ys) := ⟨_, Lib.hid rfl⟩
  obtain ⟨R0, hR0⟩ : ∃ R, Hid (R = Kn.val xs % Kn.val ys) := ⟨_, Lib.hid rfl⟩
  have hQL : (Kn.dig Q0).length ≤ 99999 := by rw [hQ0.out]; exact Nat.le_trans (Kn.dig_len_le (Nat.lt_of_le_of_lt (Nat.div_le_self _ _) Kn.dig_lt)) hdx
  have hRL : (Kn.dig R0).length ≤ 99999 := by rw [hR0.out]; exact Nat.le_trans (Kn.dig_len_le (Nat.lt_trans (Nat.mod_lt _ h0) Kn.dig_lt)) hdy
  obtain ⟨x, hxv⟩ : ∃ x, Hid (x = Kn.iv nx xs) := ⟨_, Lib.hid rfl⟩
  obtain ⟨y, hyv⟩ : ∃ x, Hid (x = Kn.iv ny ys) := ⟨_, Lib.hid rfl⟩
  rw [← hxv.out, ← hyv.out]
  unfold intV
  have HDV := Lib.hid (fun (W : World) (A1 : Option Addr) (c1 : Nat) (B1 : Option Addr) (d1 : Nat) (h1 : Sl W W.heap.size A1 c1 (Kn.dig (Kn.val xs))) (h2 : Sl W W.heap.size B1 d1 (Kn.dig (Kn.val ys))) => (by have := rdivWords_any (Kn.val xs) (Kn.val ys) A1 c1 B1 d1 W h1 h2 h0 (by omega) (by omega); rwa [← hQ0.out, ← hR0.out] at this : Calls Tryz.prog 67 #[.slice A1 (Kn.dig (Kn.val xs)).length c1, .slice B1 (Kn.dig (Kn.val ys)).length d1] W (DivRes Q0 R0 W)))
  have HTX := Lib.hid (fun (W : World) (h : Sl W W.heap.size A ca xs) => rtrim_any A ca xs W h (by omega))
  have HTY := Lib.hid (fun (W : World) (h : Sl W W.heap.size B cb ys) => rtrim_any B cb ys W h (by omega))
  have gne : (nx != ny) = true := by cases nx <;> cases ny <;> first | rfl | exact absurd rfl hn
  have gne2 : (nx == ny) = false := by cases nx <;> cases ny <;> first | rfl | exact absurd rfl hn
  have F1 := (Kn.fd_diff0 hn (xs := xs) h0 hr).1
  rw [← hza, ← hQ0.out] at F1
  have gl : decide (0 < (Kn.dig R0).length) = false := by rw [hR0.out, hr, Kn.dig_zero]; rfl
  have gl2 : decide ((0 : Int) < ((Kn.dig R0).length : Int)) = false := by rw [hR0.out, hr, Kn.dig_zero]; rfl
  have HMD := Lib.hid (fun (W : World) (A1 : Option Addr) (c1 : Nat) (h : Sl W W.heap.size A1 c1 (Kn.dig Q0)) => (by have := made_any true A1 c1 (Kn.dig Q0) W h (by omega); rwa [← F1] at this : Calls Tryz.prog 76 #[.bool true, .slice A1 (Kn.dig Q0).length c1] W (IntRes za W)))
  have hzL : (Kn.dig za.natAbs).length ≤ 100000 := by rw [F1, Kn.iv_natAbs, Kn.val_dig]; omega
  have HML := Lib.hid (fun (W : World) (D : Option Addr) (d : Nat) (h1 : Sl W W.heap.size D d (Kn.dig za.natAbs)) (h2 : Sl W W.heap.size B cb ys) => (by have := rmul_any (decide (za < 0)) D d (Kn.dig za.natAbs) ny B cb ys W h1 h2 (by omega) (by omega); rwa [Kn.iv_dig, ← hyv.out] at this : Calls Tryz.prog 75 #[intV (decide (za < 0)) D (Kn.dig za.natAbs).length d, intV ny B ys.length cb] W (IntRes (za * y) W)))
  obtain ⟨P, hP⟩ : ∃ P, Hid (P = za * y) := ⟨_, Lib.hid rfl⟩
  have hPL : (Kn.dig P.natAbs).length ≤ 200000 := by
    refine Kn.dig_len_le ?_
    rw [hP.out, Int.natAbs_mul]
    have h1 : za.natAbs < Kn.pw 100000 := Nat.lt_of_lt_of_le Kn.dig_lt (Kn.pw_mono hzL)
    have h2 : y.natAbs < Kn.pw 100000 := by rw [hyv.out, Kn.iv_natAbs]; exact Nat.lt_of_lt_of_le (Kn.val_lt hy.wd) (Kn.pw_mono (by omega))
    have := Nat.mul_lt_mul'' h1 h2
    rwa [← Kn.pw_add] at this
  rw [← hP.out] at HML ⊢
  obtain ⟨zr, hzr⟩ : ∃ z, Hid (z = x - P) := ⟨_, Lib.hid rfl⟩
  have HSB := Lib.hid (fun (W : World) (D : Option Addr) (d : Nat) (h1 : Sl W W.heap.size A ca xs) (h2 : Sl W W.heap.size D d (Kn.dig P.natAbs)) => (by have := rsub_any nx A ca xs (decide (P < 0)) D d (Kn.dig P.natAbs) W h1 h2 (by omega) (by omega); rwa [Kn.iv_dig, ← hxv.out, ← hzr.out] at this : Calls Tryz.prog 112 #[intV nx A xs.length ca, intV (decide (P < 0)) D (Kn.dig P.natAbs).length d] W (IntRes zr W)))
  rw [← hzr.out]
  unfold intV at HML HSB
  clear F1 hr
  clear hza
  go_enter Tryz.func73, Tryz.ntmps73
  go_wp2_with fail
  have i := B4.new_ w nx A xs.length ca ny B ys.length cb 24
  revert i
  generalize (((w.alloc (.cells #[.bool nx, .slice A xs.length ca] 24)).alloc (.cells #[.bool ny, .slice B ys.length cb] 24)).alloc (.cells #[.bool false, .slice none 0 0] 24)).alloc (.cells #[.bool false, .slice none 0 0] 24) = wx
  intro i
  replace i := i.drew
  have hX := (hx.below i.bel).more i.bel.size
  have hY := (hy.below i.bel).more i.bel.size
  go_region_held3 (fun w' => w'.cell? ⟨w.heap.size, 1, none⟩ = some (.slice A xs.length ca) ∧ w'.cell? ⟨w.heap.size + 1, 1, none⟩ = some (.slice B ys.length cb))
    (with_reducible exact ⟨i.t1.c1, i.t2.c1⟩)
    (first
      | (go_at_call 66; (with_reducible refine (HTX.out _ hX).mono ?_); rintro e w2 ⟨A1, c1, rfl, S1, hb⟩; replace i := i.below hb; replace hX := hX.nx hb; replace hY := hY.nx hb; clear hb)
      | (go_at_call 66; (with_reducible refine (HTY.out _ hY).mono ?_); rintro e w3 ⟨B1, d1, rfl, S2, hb⟩; replace i := i.below hb; replace hX := hX.nx hb; replace hY := hY.nx hb; replace S1 := S1.nx hb; clear hb))
  go_wp2_with fail
  refine (HDV.out _ _ _ _ _ S1 S2).mono ?_
  rintro e w4 ⟨A2, c2, B2, d2, rfl, hQ, hR, hb⟩
  replace i := i.below hb
  replace hX := hX.nx hb
  replace hY := hY.nx hb
  clear hb S1 S2
  have x0 := i.t1.c0
  have y0 := i.t2.c0
  go_wp2_with fail
  refine (HMD.out _ _ _ hQ).mono ?_
  rintro e w5 ⟨A3, c3, rfl, S3, hb⟩
  replace i := i.below hb
  replace hX := hX.nx hb
  replace hY := hY.nx hb
  clear hb hQ hR x0 y0
  have I := Dq.of i hX hY S3 24
  have x0 : (w5.alloc (.cells #[.bool (decide (za < 0)), .slice A3 (Kn.dig (za).natAbs).length c3] 24)).cell? ⟨w.heap.size, 0, none⟩ = some (.bool nx) := I.i.t1.c0
  have y0 : (w5.alloc (.cells #[.bool (decide (za < 0)), .slice A3 (Kn.dig (za).natAbs).length c3] 24)).cell? ⟨w.heap.size + 1, 0, none⟩ = some (.bool ny) := I.i.t2.c0
  clear i hX hY S3
  go_wp2_with fail
  clear x0 y0
  revert I
  generalize w5.alloc (.cells #[.bool (decide (za < 0)), .slice A3 (Kn.dig (za).natAbs).length c3] 24) = w6
  generalize w5.heap.size = g
  intro I
  replace I := I.drew
  go_region_held3 (fun w' => w'.cell? ⟨g, 0, none⟩ = some (.bool (decide (za < 0))) ∧ w'.cell? ⟨g, 1, none⟩ = some (.slice A3 (Kn.dig za.natAbs).length c3) ∧ w'.cell? ⟨w.heap.size, 0, none⟩ = some (.bool nx) ∧ w'.cell? ⟨w.heap.size, 1, none⟩ = some (.slice A xs.length ca) ∧ w'.cell? ⟨w.heap.size + 1, 0, none⟩ = some (.bool ny) ∧ w'.cell? ⟨w.heap.size + 1, 1, none⟩ = some (.slice B ys.length cb))
    (first | with_reducible exact ⟨I.t5.c0, I.t5.c1, I.i.t1.c0, I.i.t1.c1, I.i.t2.c0, I.i.t2.c1⟩ | with_reducible exact ⟨K3.1, K3.2.1, K3.2.2.1, K3.2.2.2.1, K3.2.2.2.2.1, K3.2.2.2.2.2⟩ | with_reducible exact ⟨K4.1, K4.2.1, K4.2.2.1, K4.2.2.2.1, K4.2.2.2.2.1, K4.2.2.2.2.2⟩)
    (first
      | (go_at_call 75; (with_reducible refine (HML.out _ _ _ I.q I.y).mono ?_); rintro e w7 ⟨A7, c7, rfl, S7, hb⟩; replace I := I.below hb; clear hb)
      | (go_at_call 112; (with_reducible refine (HSB.out _ _ _ I.x S7).mono ?_); rintro e w8 ⟨A8, c8, rfl, S8, hb⟩; replace I := I.below hb; clear hb;
          have T3 := I.i.t3; have d20 := T3.c0; have d21 := T3.c1; have f20 := T3.fr 0; have f21 := T3.fr 1;
          have T4 : Two ((w8.setCell ⟨w.heap.size + 2, 0, none⟩ (.bool (decide (za < 0)))).setCell ⟨w.heap.size + 2, 1, none⟩ (.slice A3 (Kn.dig za.natAbs).length c3)) (w.heap.size + 3) (.bool false) (.slice none 0 0) := (I.i.t4.far (by simp) _).far (by simp) _;
          have d30 := T4.c0; have d31 := T4.c1; have f30 := T4.fr 0; have f31 := T4.fr 1;
          have K3 := six_far I (b := w.heap.size + 2) (by omega) (by omega) (by have := I.hg; omega) (.bool (decide (za < 0))) (.slice A3 (Kn.dig za.natAbs).length c3);
          have K4 := six_far2 K3 (b := w.heap.size + 3) (by omega) (by omega) (by have := I.hg; omega) (.bool (decide (zr < 0))) (.slice A8 (Kn.dig zr.natAbs).length c8)))
  all_goals
    have R := Lib.hid (four_set w8 (b := w.heap.size + 2) (b' := w.heap.size + 3) (by omega) (.bool (decide (za < 0))) (.slice A3 (Kn.dig za.natAbs).length c3) (.bool (decide (zr < 0))) (.slice A8 (Kn.dig zr.natAbs).length c8) I.i.t3.c0 I.i.t3.c1 I.i.t4.c0 I.i.t4.c1)
    clear d20 d21 f20 f21 d30 d31 f30 f31 T3 T4 K3 K4
    go_wp2_with fail
    obtain ⟨r0, r1, r2, r3⟩ := R.out
    refine bodyPost_ret (v := .tuple #[.agg #[.bool (decide (za < 0)), .slice A3 (Kn.dig za.natAbs).length c3], .agg #[.bool (decide (zr < 0)), .slice A8 (Kn.dig zr.natAbs).length c8], .int .i64 0]) (by simp [results, Tryz.results73, go_sem, r0, r1, r2, r3]) rfl ?_
    exact I.i.fin I.q S8 _ _ _ _
end Go.Proofs.YtkpomjdablopaaaGreatDoor
/- Walks: the reference's Divide, other signs, something left. -/
namespace Go.Proofs.YtkpomjdablopaaaGreatDoor
open Go.RowKit
set_option linter.unusedVariables false

set_option maxRecDepth 100000 in
set_option maxHeartbeats 3000000 in
theorem rdivide_diff1 (nx : Bool) (A : Option Addr) (ca : Nat) (xs : List Nat) (ny : Bool) (B : Option Addr) (cb : Nat) (ys : List Nat) (w : World) (hx : Sl w w.heap.size A ca xs) (hy : Sl w w.heap.size B cb ys) (hlx : xs.length ≤ 99999) (hly : ys.length ≤ 99999) (h0 : 0 < Kn.val ys) (hn : nx ≠ ny) (hr : 0 < Kn.val xs % Kn.val ys) :
    Calls Tryz.prog 73 #[intV nx A xs.length ca, intV ny B ys.length cb] w (IntRes2 ((Kn.iv nx xs).fdiv (Kn.iv ny ys)) ((Kn.iv nx xs).fmod (Kn.iv ny ys)) w) := by
  rw [fmod_sub]
  obtain ⟨za, hza⟩ : ∃ z : Int, z = (Kn.iv nx xs).fdiv (Kn.iv ny ys) := ⟨_, rfl⟩
  rw [← hza]
  have hdx : (Kn.dig (Kn.val xs)).length ≤ 99999 := Nat.le_trans (Kn.dig_len_val hx.wd) hlx
  have hdy : (Kn.dig (Kn.val ys)).length ≤ 99999 := Nat.le_trans (Kn.dig_len_val hy.wd) hly
  have hdp : 0 < (Kn.dig (Kn.val ys)).length := Kn.dig_len_pos.2 h0
  have gz : (((Kn.dig (Kn.val ys)).length : Int) == 0) = false := by rw [beq_eq_false_iff_ne]; omega
  obtain ⟨Q0, hQ0⟩ : ∃ R, Hid (R = Kn.val xs / Kn.val ys) := ⟨_, Lib.hid rfl⟩
  obtain ⟨R0, hR0⟩ : ∃ R, Hid (R = Kn.val xs % Kn.val ys) := ⟨_, Lib.hid rfl⟩
  have hQL : (Kn.dig Q0).length ≤ 99999 := by rw [hQ0.out]; exact Nat.le_trans (Kn.dig_len_le (Nat.lt_of_le_of_lt (Nat.div_le_self _ _) Kn.dig_lt)) hdx
  have hRL : (Kn.dig R0).length ≤ 99999 := by rw [hR0.out]; exact Nat.le_trans (Kn.dig_len_le (Nat.lt_trans (Nat.mod_lt _ h0) Kn.dig_lt)) hdy
  obtain ⟨x, hxv⟩ : ∃ x, Hid (x = Kn.iv nx xs) := ⟨_, Lib.hid rfl⟩
  obtain ⟨y, hyv⟩ : ∃ x, Hid (x = Kn.iv ny ys) := ⟨_, Lib.hid rfl⟩
  rw [← hxv.out, ← hyv.out]
  unfold intV
  have HDV := Lib.hid (fun (W : World) (A1 : Option Addr) (c1 : Nat) (B1 : Option Addr) (d1 : Nat) (h1 : Sl W W.heap.size A1 c1 (Kn.dig (Kn.val xs))) (h2 : Sl W W.heap.size B1 d1 (Kn.dig (Kn.val ys))) => (by have := rdivWords_any (Kn.val xs) (Kn.val ys) A1 c1 B1 d1 W h1 h2 h0 (by omega) (by omega); rwa [← hQ0.out, ← hR0.out] at this : Calls Tryz.prog 67 #[.slice A1 (Kn.dig (Kn.val xs)).length c1, .slice B1 (Kn.dig (Kn.val ys)).length d1] W (DivRes Q0 R0 W)))
  have HTX := Lib.hid (fun (W : World) (h : Sl W W.heap.size A ca xs) => rtrim_any A ca xs W h (by omega))
  have HTY := Lib.hid (fun (W : World) (h : Sl W W.heap.size B cb ys) => rtrim_any B cb ys W h (by omega))
  have gne : (nx != ny) = true := by cases nx <;> cases ny <;> first | rfl | exact absurd rfl hn
  have gne2 : (nx == ny) = false := by cases nx <;> cases ny <;> first | rfl | exact absurd rfl hn
  have F1 := (Kn.fd_diff1 hn (xs := xs) h0 hr).1
  rw [← hza, ← hQ0.out] at F1
  have hp : 0 < (Kn.dig R0).length := by rw [hR0.out]; exact Kn.dig_len_pos.2 hr
  have gl : decide (0 < (Kn.dig R0).length) = true := by simp [hp]
  have gl2 : decide ((0 : Int) < ((Kn.dig R0).length : Int)) = true := by simp; omega
  obtain ⟨z0, hz0⟩ : ∃ z, Hid (z = Kn.iv true (Kn.dig Q0)) := ⟨_, Lib.hid rfl⟩
  have F2 : za = z0 - 1 := by rw [F1, hz0.out, Kn.iv_d, Kn.iv_d]; simp only [if_true]; omega
  have hz0L : (Kn.dig z0.natAbs).length ≤ 99999 := by rw [hz0.out, Kn.iv_natAbs, Kn.val_dig]; exact hQL
  have hQ1L : (Kn.dig (Q0 + 1)).length ≤ 100000 := by
    refine Kn.dig_len_le ?_
    have h1 := @Kn.dig_lt Q0
    have h2 := Kn.pw_mono (show (Kn.dig Q0).length + 1 ≤ 100000 by omega)
    rw [Kn.pw_succ] at h2
    have h4 := Kn.pw_pos (Kn.dig Q0).length
    generalize Kn.pw 100000 = P at *
    omega
  have HOF := Lib.hid (fun (W : World) => rof_any 1 (Lib.hid (by omega)) (Lib.hid (by omega)) W)
  have HS1 := Lib.hid (fun (W : World) (D : Option Addr) (d : Nat) (E : Option Addr) (e : Nat) (h1 : Sl W W.heap.size D d (Kn.dig z0.natAbs)) (h2 : Sl W W.heap.size E e (Kn.dig (1 : Int).natAbs)) => (by have := rsub_any (decide (z0 < 0)) D d (Kn.dig z0.natAbs) (decide ((1 : Int) < 0)) E e (Kn.dig (1 : Int).natAbs) W h1 h2 (by omega) (Nat.le_trans (Kn.dig_len_le (k := 1) (by decide)) (by omega)); rwa [Kn.iv_dig, Kn.iv_dig, ← F2] at this : Calls Tryz.prog 112 #[intV (decide (z0 < 0)) D (Kn.dig z0.natAbs).length d, intV (decide ((1 : Int) < 0)) E (Kn.dig (1 : Int).natAbs).length e] W (IntRes za W)))
  unfold intV at HS1
  have HMD := Lib.hid (fun (W : World) (A1 : Option Addr) (c1 : Nat) (h : Sl W W.heap.size A1 c1 (Kn.dig Q0)) => (by have := made_any true A1 c1 (Kn.dig Q0) W h (by omega); rwa [← hz0.out] at this : Calls Tryz.prog 76 #[.bool true, .slice A1 (Kn.dig Q0).length c1] W (IntRes z0 W)))
  have hzL : (Kn.dig za.natAbs).length ≤ 100000 := by rw [F1, Kn.iv_natAbs, Kn.val_dig]; exact hQ1L
  have HML := Lib.hid (fun (W : World) (D : Option Addr) (d : Nat) (h1 : Sl W W.heap.size D d (Kn.dig za.natAbs)) (h2 : Sl W W.heap.size B cb ys) => (by have := rmul_any (decide (za < 0)) D d (Kn.dig za.natAbs) ny B cb ys W h1 h2 (by omega) (by omega); rwa [Kn.iv_dig, ← hyv.out] at this : Calls Tryz.prog 75 #[intV (decide (za < 0)) D (Kn.dig za.natAbs).length d, intV ny B ys.length cb] W (IntRes (za * y) W)))
  obtain ⟨P, hP⟩ : ∃ P, Hid (P = za * y) := ⟨_, Lib.hid rfl⟩
  have hPL : (Kn.dig P.natAbs).length ≤ 200000 := by
    refine Kn.dig_len_le ?_
    rw [hP.out, Int.natAbs_mul]
    have h1 : za.natAbs < Kn.pw 100000 := Nat.lt_of_lt_of_le Kn.dig_lt (Kn.pw_mono hzL)
    have h2 : y.natAbs < Kn.pw 100000 := by rw [hyv.out, Kn.iv_natAbs]; exact Nat.lt_of_lt_of_le (Kn.val_lt hy.wd) (Kn.pw_mono (by omega))
    have := Nat.mul_lt_mul'' h1 h2
    rwa [← Kn.pw_add] at this
  rw [← hP.out] at HML ⊢
  obtain ⟨zr, hzr⟩ : ∃ z, Hid (z = x - P) := ⟨_, Lib.hid rfl⟩
  have HSB := Lib.hid (fun (W : World) (D : Option Addr) (d : Nat) (h1 : Sl W W.heap.size A ca xs) (h2 : Sl W W.heap.size D d (Kn.dig P.natAbs)) => (by have := rsub_any nx A ca xs (decide (P < 0)) D d (Kn.dig P.natAbs) W h1 h2 (by omega) (by omega); rwa [Kn.iv_dig, ← hxv.out, ← hzr.out] at this : Calls Tryz.prog 112 #[intV nx A xs.length ca, intV (decide (P < 0)) D (Kn.dig P.natAbs).length d] W (IntRes zr W)))
  rw [← hzr.out]
  unfold intV at HML HSB
  clear F1 F2 hr
  clear hza
  go_enter Tryz.func73, Tryz.ntmps73
  go_wp2_with fail
  have i := B4.new_ w nx A xs.length ca ny B ys.length cb 24
  revert i
  generalize (((w.alloc (.cells #[.bool nx, .slice A xs.length ca] 24)).alloc (.cells #[.bool ny, .slice B ys.length cb] 24)).alloc (.cells #[.bool false, .slice none 0 0] 24)).alloc (.cells #[.bool false, .slice none 0 0] 24) = wx
  intro i
  replace i := i.drew
  have hX := (hx.below i.bel).more i.bel.size
  have hY := (hy.below i.bel).more i.bel.size
  go_region_held3 (fun w' => w'.cell? ⟨w.heap.size, 1, none⟩ = some (.slice A xs.length ca) ∧ w'.cell? ⟨w.heap.size + 1, 1, none⟩ = some (.slice B ys.length cb))
    (with_reducible exact ⟨i.t1.c1, i.t2.c1⟩)
    (first
      | (go_at_call 66; (with_reducible refine (HTX.out _ hX).mono ?_); rintro e w2 ⟨A1, c1, rfl, S1, hb⟩; replace i := i.below hb; replace hX := hX.nx hb; replace hY := hY.nx hb; clear hb)
      | (go_at_call 66; (with_reducible refine (HTY.out _ hY).mono ?_); rintro e w3 ⟨B1, d1, rfl, S2, hb⟩; replace i := i.below hb; replace hX := hX.nx hb; replace hY := hY.nx hb; replace S1 := S1.nx hb; clear hb))
  go_wp2_with fail
  refine (HDV.out _ _ _ _ _ S1 S2).mono ?_
  rintro e w4 ⟨A2, c2, B2, d2, rfl, hQ, hR, hb⟩
  replace i := i.below hb
  replace hX := hX.nx hb
  replace hY := hY.nx hb
  clear hb S1 S2
  have x0 := i.t1.c0
  have y0 := i.t2.c0
  go_wp2_with fail
  refine (HMD.out _ _ _ hQ).mono ?_
  rintro e w5 ⟨A3, c3, rfl, S3, hb⟩
  replace i := i.below hb
  replace hX := hX.nx hb
  replace hY := hY.nx hb
  clear hb hQ hR x0 y0
  have I := Dq.of i hX hY S3 24
  have x0 : (w5.alloc (.cells #[.bool (decide (z0 < 0)), .slice A3 (Kn.dig (z0).natAbs).length c3] 24)).cell? ⟨w.heap.size, 0, none⟩ = some (.bool nx) := I.i.t1.c0
  have y0 : (w5.alloc (.cells #[.bool (decide (z0 < 0)), .slice A3 (Kn.dig (z0).natAbs).length c3] 24)).cell? ⟨w.heap.size + 1, 0, none⟩ = some (.bool ny) := I.i.t2.c0
  clear i hX hY S3
  go_wp2_with fail
  clear x0 y0
  revert I
  generalize w5.alloc (.cells #[.bool (decide (z0 < 0)), .slice A3 (Kn.dig (z0).natAbs).length c3] 24) = w6
  generalize w5.heap.size = g
  intro I
  go_cut [11] (fun s11 wx => s11 = .pointer (some ⟨g, 0, none⟩) ∧ ∃ A3 c3, Dq w wx nx A ca xs ny B cb ys g A3 c3 za)
  case first =>
    have d0 := I.t5.c0
    have d1 := I.t5.c1
    have f0 := I.t5.fr 0
    have f1 := I.t5.fr 1
    replace I := I.drew
    go_region_law (first
      | (go_simp; go_at_call 69; (refine (HOF.out _).mono ?_); rintro e w7 ⟨A7, c7, rfl, S7, hb⟩; replace I := I.below hb; clear hb; have d0 := I.t5.c0; have d1 := I.t5.c1; have f0 := I.t5.fr 0; have f1 := I.t5.fr 1)
      | (go_simp; go_at_call 112; (refine (HS1.out _ _ _ _ _ I.q S7).mono ?_); rintro e w8 ⟨A8, c8, rfl, S8, hb⟩; replace I := I.below hb; clear hb; have d0 := I.t5.c0; have d1 := I.t5.c1; have f0 := I.t5.fr 0; have f1 := I.t5.fr 1))
    all_goals
      have J := I.put S8
      go_wp2_with fail
      go_meet
      exact ⟨rfl, _, _, J⟩
  case rest =>
    clear I
    obtain ⟨rfl, A3, c3, I⟩ := hcut
    obtain ⟨w6, rfl⟩ := I.name
    go_wp2_with fail
    replace I := I.drew
    go_region_held3 (fun w' => w'.cell? ⟨g, 0, none⟩ = some (.bool (decide (za < 0))) ∧ w'.cell? ⟨g, 1, none⟩ = some (.slice A3 (Kn.dig za.natAbs).length c3) ∧ w'.cell? ⟨w.heap.size, 0, none⟩ = some (.bool nx) ∧ w'.cell? ⟨w.heap.size, 1, none⟩ = some (.slice A xs.length ca) ∧ w'.cell? ⟨w.heap.size + 1, 0, none⟩ = some (.bool ny) ∧ w'.cell? ⟨w.heap.size + 1, 1, none⟩ = some (.slice B ys.length cb))
      (first | with_reducible exact ⟨I.t5.c0, I.t5.c1, I.i.t1.c0, I.i.t1.c1, I.i.t2.c0, I.i.t2.c1⟩ | with_reducible exact ⟨K3.1, K3.2.1, K3.2.2.1, K3.2.2.2.1, K3.2.2.2.2.1, K3.2.2.2.2.2⟩ | with_reducible exact ⟨K4.1, K4.2.1, K4.2.2.1, K4.2.2.2.1, K4.2.2.2.2.1, K4.2.2.2.2.2⟩)
      (first
        | (go_at_call 75; (with_reducible refine (HML.out _ _ _ I.q I.y).mono ?_); rintro e w7 ⟨A7, c7, rfl, S7, hb⟩; replace I := I.below hb; clear hb)
        | (go_at_call 112; (with_reducible refine (HSB.out _ _ _ I.x S7).mono ?_); rintro e w8 ⟨A8, c8, rfl, S8, hb⟩; replace I := I.below hb; clear hb;
            have T3 := I.i.t3; have d20 := T3.c0; have d21 := T3.c1; have f20 := T3.fr 0; have f21 := T3.fr 1;
            have T4 : Two ((w8.setCell ⟨w.heap.size + 2, 0, none⟩ (.bool (decide (za < 0)))).setCell ⟨w.heap.size + 2, 1, none⟩ (.slice A3 (Kn.dig za.natAbs).length c3)) (w.heap.size + 3) (.bool false) (.slice none 0 0) := (I.i.t4.far (by simp) _).far (by simp) _;
            have d30 := T4.c0; have d31 := T4.c1; have f30 := T4.fr 0; have f31 := T4.fr 1;
            have K3 := six_far I (b := w.heap.size + 2) (by omega) (by omega) (by have := I.hg; omega) (.bool (decide (za < 0))) (.slice A3 (Kn.dig za.natAbs).length c3);
            have K4 := six_far2 K3 (b := w.heap.size + 3) (by omega) (by omega) (by have := I.hg; omega) (.bool (decide (zr < 0))) (.slice A8 (Kn.dig zr.natAbs).length c8)))
    all_goals
      have R := Lib.hid (four_set w8 (b := w.heap.size + 2) (b' := w.heap.size + 3) (by omega) (.bool (decide (za < 0))) (.slice A3 (Kn.dig za.natAbs).length c3) (.bool (decide (zr < 0))) (.slice A8 (Kn.dig zr.natAbs).length c8) I.i.t3.c0 I.i.t3.c1 I.i.t4.c0 I.i.t4.c1)
      clear d20 d21 f20 f21 d30 d31 f30 f31 T3 T4 K3 K4
      go_wp2_with fail
      obtain ⟨r0, r1, r2, r3⟩ := R.out
      refine bodyPost_ret (v := .tuple #[.agg #[.bool (decide (za < 0)), .slice A3 (Kn.dig za.natAbs).length c3], .agg #[.bool (decide (zr < 0)), .slice A8 (Kn.dig zr.natAbs).length c8], .int .i64 0]) (by simp [results, Tryz.results73, go_sem, r0, r1, r2, r3]) rfl ?_
      exact I.i.fin I.q S8 _ _ _ _
end Go.Proofs.YtkpomjdablopaaaGreatDoor
/- Walks: the reference's Divide, for every two integers. -/
namespace Go.Proofs.YtkpomjdablopaaaGreatDoor
open Go.RowKit
set_option linter.unusedVariables false

theorem rdivide_any (nx : Bool) (A : Option Addr) (ca : Nat) (xs : List Nat) (ny : Bool) (B : Option Addr) (cb : Nat) (ys : List Nat) (w : World) (hx : Sl w w.heap.size A ca xs) (hy : Sl w w.heap.size B cb ys) (hlx : xs.length ≤ 99999) (hly : ys.length ≤ 99999) (h0 : 0 < Kn.val ys) :
    Calls Tryz.prog 73 #[intV nx A xs.length ca, intV ny B ys.length cb] w (IntRes2 ((Kn.iv nx xs).fdiv (Kn.iv ny ys)) ((Kn.iv nx xs).fmod (Kn.iv ny ys)) w) := by
  rcases Decidable.em (nx = ny) with hn | hn
  · exact rdivide_same nx A ca xs ny B cb ys w hx hy hlx hly h0 hn
  · rcases Nat.eq_zero_or_pos (Kn.val xs % Kn.val ys) with hr | hr
    · exact rdivide_diff0 nx A ca xs ny B cb ys w hx hy hlx hly h0 hn hr
    · exact rdivide_diff1 nx A ca xs ny B cb ys w hx hy hlx hly h0 hn hr

set_option maxRecDepth 100000 in
set_option maxHeartbeats 1000000 in
theorem rdivide_zero (nx : Bool) (A : Option Addr) (ca : Nat) (xs : List Nat) (ny : Bool) (B : Option Addr) (cb : Nat) (ys : List Nat) (w : World) (hx : Sl w w.heap.size A ca xs) (hy : Sl w w.heap.size B cb ys) (hlx : xs.length ≤ 99999) (hly : ys.length ≤ 99999) (h0 : Kn.val ys = 0) :
    Calls Tryz.prog 73 #[intV nx A xs.length ca, intV ny B ys.length cb] w fun e w' => e = .returned (.tuple #[intV false none 0 0, intV false none 0 0, .int .i64 1]) ∧ Below w.heap.size w w' := by
  have hd : (Kn.dig (Kn.val ys)).length = 0 := by rw [h0, Kn.dig_zero]; rfl
  have HTX := Lib.hid (fun (W : World) (h : Sl W W.heap.size A ca xs) => rtrim_any A ca xs W h (by omega))
  have HTY : Hid (∀ W : World, Sl W W.heap.size B cb ys → Calls Tryz.prog 66 #[.slice B ys.length cb] W fun e w' => ∃ A c, e = Ending.returned (.slice A 0 c) ∧ Below W.heap.size W w') := Lib.hid (fun W h => (rtrim_any B cb ys W h (by omega)).mono fun e w' ⟨A', c', he, hS, hb⟩ => ⟨A', c', by rw [he, hd], hb⟩)
  clear hd
  unfold intV
  go_enter Tryz.func73, Tryz.ntmps73
  go_wp2_with fail
  have i := B4.new_ w nx A xs.length ca ny B ys.length cb 24
  revert i
  generalize (((w.alloc (.cells #[.bool nx, .slice A xs.length ca] 24)).alloc (.cells #[.bool ny, .slice B ys.length cb] 24)).alloc (.cells #[.bool false, .slice none 0 0] 24)).alloc (.cells #[.bool false, .slice none 0 0] 24) = wx
  intro i
  replace i := i.drew
  have hX := (hx.below i.bel).more i.bel.size
  have hY := (hy.below i.bel).more i.bel.size
  go_region_held3 (fun w' => w'.cell? ⟨w.heap.size, 1, none⟩ = some (.slice A xs.length ca) ∧ w'.cell? ⟨w.heap.size + 1, 1, none⟩ = some (.slice B ys.length cb))
    (with_reducible exact ⟨i.t1.c1, i.t2.c1⟩)
    (first
      | (go_at_call 66; (with_reducible refine (HTX.out _ hX).mono ?_); rintro e w2 ⟨A1, c1, rfl, S1, hb⟩; replace i := i.below hb; replace hX := hX.nx hb; replace hY := hY.nx hb; clear hb)
      | (go_at_call 66; (with_reducible refine (HTY.out _ hY).mono ?_); rintro e w3 ⟨B1, d1, rfl, hb⟩; replace i := i.below hb; replace hX := hX.nx hb; replace hY := hY.nx hb; clear hb))
  have d20 := i.t3.c0
  have d21 := i.t3.c1
  have f20 := i.t3.fr 0
  have f21 := i.t3.fr 1
  have T4 : Two ((w3.setCell ⟨w.heap.size + 2, 0, none⟩ (.bool false)).setCell ⟨w.heap.size + 2, 1, none⟩ (.slice none 0 0)) (w.heap.size + 3) (.bool false) (.slice none 0 0) := (i.t4.far (by simp) _).far (by simp) _
  have d30 := T4.c0
  have d31 := T4.c1
  have f30 := T4.fr 0
  have f31 := T4.fr 1
  have R := Lib.hid (four_set w3 (b := w.heap.size + 2) (b' := w.heap.size + 3) (by omega) (.bool false) (.slice none 0 0) (.bool false) (.slice none 0 0) i.t3.c0 i.t3.c1 i.t4.c0 i.t4.c1)
  go_wp2_with fail
  obtain ⟨r0, r1, r2, r3⟩ := R.out
  refine bodyPost_ret (v := .tuple #[.agg #[.bool false, .slice none 0 0], .agg #[.bool false, .slice none 0 0], .int .i64 1]) (by simp [results, Tryz.results73, go_sem, r0, r1, r2, r3]) rfl ?_
  exact ⟨rfl, (((i.bel.setCell (p := ⟨w.heap.size + 2, 0, none⟩) (by simp) _).setCell (p := ⟨w.heap.size + 2, 1, none⟩) (by simp) _).setCell (p := ⟨w.heap.size + 3, 0, none⟩) (by simp) _).setCell (p := ⟨w.heap.size + 3, 1, none⟩) (by simp) _⟩
end Go.Proofs.YtkpomjdablopaaaGreatDoor
/- Walks: the reference's Gcd. -/
namespace Go.Proofs.YtkpomjdablopaaaGreatDoor
open Go.RowKit
set_option linter.unusedVariables false

theorem iv_false_dig (n : Nat) : Kn.iv false (Kn.dig n) = (n : Int) := by rw [Kn.iv_d]; rfl

set_option maxRecDepth 100000 in
set_option maxHeartbeats 2000000 in
theorem rgcd_any (nx : Bool) (A : Option Addr) (ca : Nat) (xs : List Nat) (ny : Bool) (B : Option Addr) (cb : Nat) (ys : List Nat) (w : World) (hx : Sl w w.heap.size A ca xs) (hy : Sl w w.heap.size B cb ys) (hlx : xs.length ≤ 99999) (hly : ys.length ≤ 99999) :
    Calls Tryz.prog 72 #[intV nx A xs.length ca, intV ny B ys.length cb] w (IntRes (Nat.gcd (Kn.val xs) (Kn.val ys) : Int) w) := by
  obtain ⟨G, hG⟩ : ∃ G, Hid (G = Nat.gcd (Kn.val xs) (Kn.val ys)) := ⟨_, Lib.hid rfl⟩
  rw [← hG.out]
  obtain ⟨z, hz⟩ : ∃ z : Int, Hid (z = (G : Int)) := ⟨_, Lib.hid rfl⟩
  rw [← hz.out]
  have hdx : (Kn.dig (Kn.val xs)).length ≤ 99999 := Nat.le_trans (Kn.dig_len_val hx.wd) hlx
  have hdy : (Kn.dig (Kn.val ys)).length ≤ 99999 := Nat.le_trans (Kn.dig_len_val hy.wd) hly
  have HTX := Lib.hid (fun (W : World) (h : Sl W W.heap.size A ca xs) => rtrim_any A ca xs W h (by omega))
  have HTY := Lib.hid (fun (W : World) (h : Sl W W.heap.size B cb ys) => rtrim_any B cb ys W h (by omega))
  unfold intV
  go_enter Tryz.func72, Tryz.ntmps72
  go_wp2_with fail
  have i := B3.new_ w nx A xs.length ca ny B ys.length cb 24
  revert i
  generalize ((w.alloc (.cells #[.bool nx, .slice A xs.length ca] 24)).alloc (.cells #[.bool ny, .slice B ys.length cb] 24)).alloc (.cells #[.bool false, .slice none 0 0] 24) = wx
  intro i
  replace i := i.drew
  have hX := (hx.below i.bel).more i.bel.size
  have hY := (hy.below i.bel).more i.bel.size
  go_region_held3 (fun w' => w'.cell? ⟨w.heap.size, 1, none⟩ = some (.slice A xs.length ca) ∧ w'.cell? ⟨w.heap.size + 1, 1, none⟩ = some (.slice B ys.length cb))
    (with_reducible exact ⟨i.t1.c1, i.t2.c1⟩)
    (first
      | (go_at_call 66; (with_reducible refine (HTX.out _ hX).mono ?_); rintro e w2 ⟨A1, c1, rfl, S1, hb⟩; replace i := i.below hb; replace hX := hX.nx hb; replace hY := hY.nx hb; clear hb)
      | (go_at_call 66; (with_reducible refine (HTY.out _ hY).mono ?_); rintro e w3 ⟨B1, d1, rfl, S2, hb⟩; replace i := i.below hb; replace hX := hX.nx hb; replace hY := hY.nx hb; replace S1 := S1.nx hb; clear hb))
  clear hX hY HTX HTY
  go_wp2_with fail
  go_loopw [5, 6] (fun av bv wr => ∃ N M A1 c1 B1 d1, av = .slice A1 (Kn.dig N).length c1 ∧ bv = .slice B1 (Kn.dig M).length d1 ∧ Sl wr wr.heap.size A1 c1 (Kn.dig N) ∧ Sl wr wr.heap.size B1 d1 (Kn.dig M) ∧ (Kn.dig N).length ≤ 99999 ∧ (Kn.dig M).length ≤ 99999 ∧ Hid (Nat.gcd N M = G) ∧ B3 w wr nx A xs.length ca ny B ys.length cb) (fun _ bv wr => rdVal wr bv)
  case atStart => exact ⟨_, _, A1, c1, B1, d1, rfl, rfl, S1, S2, hdx, hdy, Lib.hid hG.out.symm, i⟩
  case round =>
    clear i S1 S2 hdx hdy
    obtain ⟨N, M, A1, c1, B1, d1, rfl, rfl, S1, S2, hN, hM, HG, i⟩ := hrel
    rcases Nat.eq_zero_or_pos M with h0 | h0
    · subst h0
      have hNG : Hid (N = G) := Lib.hid (by rw [← HG.out, Nat.gcd_zero_right])
      have HMD := Lib.hid (fun (W : World) (h : Sl W W.heap.size A1 c1 (Kn.dig N)) => (by have := made_any false A1 c1 (Kn.dig N) W h (by omega); rwa [iv_false_dig, show (N : Int) = z by rw [hNG.out, hz.out]] at this : Calls Tryz.prog 76 #[.bool false, .slice A1 (Kn.dig N).length c1] W (IntRes z W)))
      rw [Kn.dig_zero]
      go_wp2_with fail
      refine (HMD.out _ S1).mono ?_
      rintro e w4 ⟨A4, c4, rfl, S4, hb⟩
      replace i := i.below hb
      clear hb
      have d20 := i.t3.c0
      have d21 := i.t3.c1
      have f20 := i.t3.fr 0
      have f21 := i.t3.fr 1
      have R := Lib.hid (two_set w4 (.bool (decide (z < 0))) (.slice A4 (Kn.dig z.natAbs).length c4) d20 d21)
      clear d20 d21 f20 f21
      have d20 := i.t3.c0
      have d21 := i.t3.c1
      have f20 := i.t3.fr 0
      have f21 := i.t3.fr 1
      go_wp2_with fail
      obtain ⟨r0, r1⟩ := R.out
      refine bodyPost_ret (v := .agg #[.bool (decide (z < 0)), .slice A4 (Kn.dig z.natAbs).length c4]) (by simp [results, Tryz.results72, go_sem, r0, r1]) rfl ?_
      exact i.fin S4
    · have hp := Kn.dig_len_pos.2 h0
      have g1 : decide ((0 : Int) < ((Kn.dig M).length : Int)) = true := by simp; omega
      obtain ⟨R, hR⟩ : ∃ R, Hid (R = N % M) := ⟨_, Lib.hid rfl⟩
      have hRM : R < M := by rw [hR.out]; exact Nat.mod_lt _ h0
      have hRL : (Kn.dig R).length ≤ 99999 := Nat.le_trans (Kn.dig_len_le (Nat.lt_trans hRM Kn.dig_lt)) hM
      have HG2 : Hid (Nat.gcd M R = G) := Lib.hid (by rw [← HG.out, hR.out, Nat.gcd_comm N M, Nat.gcd_rec M N, Nat.gcd_comm])
      go_wp2_with fail
      refine (rdivWords_any N M A1 c1 B1 d1 _ S1 S2 h0 (by omega) (by omega)).mono ?_
      rintro e w4 ⟨A4, c4, B4, d4, rfl, S4, S5, hb⟩
      rw [← hR.out] at S5 ⊢
      have hms : rdVal w4 (.slice B4 (Kn.dig R).length d4) < rdVal wr (.slice B1 (Kn.dig M).length d1) := by rw [rdVal_dig S5, rdVal_dig S2]; exact hRM
      have HMS := Lib.hid hms
      replace S2 := S2.nx hb
      replace i := i.below hb
      clear hb hms
      go_wp2_with fail
      go_roundw
      case rel => exact ⟨M, R, B1, d1, B4, d4, rfl, rfl, S2, S5, hM, hRL, HG2, i⟩
      case measure => exact HMS.out
end Go.Proofs.YtkpomjdablopaaaGreatDoor
/- Walks: gcdSmall, leading. -/
namespace Go.Proofs.YtkpomjdablopaaaGreatDoor
open Go.RowKit
set_option linter.unusedVariables false

set_option maxHeartbeats 1000000 in
theorem gcdSmall_any (a b : Nat) (ha : Hid (a < 18446744073709551616)) (hb : Hid (b < 18446744073709551616)) (w : World) :
    Calls Tryz.prog 149 #[.int .u64 (a : Int), .int .u64 (b : Int)] w fun e w' => e = .returned (.int .u64 (Nat.gcd a b : Nat)) ∧ ∃ q, w' = w.drewN q := by
  go_enter Tryz.func149, Tryz.ntmps149
  go_wp2_with fail
  go_loopw [0, 1] (fun av bv wr => ∃ x y q, av = .int .u64 (x : Nat) ∧ bv = .int .u64 (y : Nat) ∧ wr = w.drewN q ∧ Hid (Nat.gcd x y = Nat.gcd a b)) (fun _ bv _ => (intOf bv).toNat)
  case atStart => exact ⟨a, b, 0, rfl, rfl, rfl, Lib.hid rfl⟩
  case round =>
    obtain ⟨x, y, q, rfl, rfl, rfl, HG⟩ := hrel
    rcases Nat.eq_zero_or_pos y with h0 | h0
    · subst h0
      have hx : Hid (x = Nat.gcd a b) := Lib.hid (by rw [← HG.out, Nat.gcd_zero_right])
      go_wp2_with fail
      go_ret
      exact ⟨ret_int (by rw [hx.out]), q, rfl⟩
    · have hy : (y : Int) ≠ 0 := by omega
      have gy : ((y : Int) != 0) = true := by rw [bne_iff_ne]; exact hy
      obtain ⟨r, hr⟩ : ∃ r : Nat, Hid (r = x % y) := ⟨_, Lib.hid rfl⟩
      have er : (x : Int) % (y : Int) = (r : Int) := by rw [hr.out]; omega
      have er2 : (x : Int).tmod (y : Int) = (r : Int) := by rw [← Int.ofNat_tmod, hr.out]
      have hrl : r < y := by rw [hr.out]; exact Nat.mod_lt _ h0
      have HG2 : Hid (Nat.gcd y r = Nat.gcd a b) := Lib.hid (by rw [← HG.out, hr.out, Nat.gcd_comm x y, Nat.gcd_rec y x, Nat.gcd_comm])
      go_wp2_with fail
      go_quiet (fail)
      go_wp2_with fail
      go_roundw
      case rel => exact ⟨y, r, q + nq, rfl, rfl, by first | rfl | rw [World.drewN_drewN], HG2⟩
      case measure => first | (simp [intOf]; done) | (simp [intOf]; omega)

/-- a box that holds a slice of words -/
structure BxS (w : World) (b : Nat) (A : Option Addr) (n c : Nat) : Prop where
  blk : ∃ T, w.heap[b]? = some (.cells #[.slice A n c] T (0, 0))
theorem BxS.lt {w : World} {b : Nat} {A : Option Addr} {n c : Nat} (h : BxS w b A n c) : b < w.heap.size := by obtain ⟨T, h⟩ := h.blk; exact (Array.getElem?_eq_some_iff.1 h).1
theorem BxS.c0 {w : World} {b : Nat} {A : Option Addr} {n c : Nat} (h : BxS w b A n c) : w.cell? ⟨b, 0, none⟩ = some (.slice A n c) := by obtain ⟨T, h⟩ := h.blk; rw [cell_of_row w b 0 _ _ _ h]; rfl
theorem BxS.new_ (w : World) (A : Option Addr) (n c : Nat) (T : TypeId) : BxS (w.alloc (.cells #[.slice A n c] T)) w.heap.size A n c := ⟨T, heap_alloc_new w _⟩
theorem BxS.drewN {w : World} {b : Nat} {A : Option Addr} {n c : Nat} (h : BxS w b A n c) (q : Nat) : BxS (w.drewN q) b A n c := ⟨h.blk⟩

set_option maxHeartbeats 400000 in
theorem leadWord_any (b : Nat) (A : Option Addr) (c : Nat) (a : List Nat) (k x : Nat) (w : World) (P : Nat) (hbx : BxS w b A a.length c) (ha : Sl w P A c a) (hk : k ≤ 1000000000) (hx : Hid (x = a.getD k 0)) :
    Calls Tryz.prog 184 #[.int .i64 (k : Int), .pointer (some ⟨b, 0, none⟩)] w fun e w' => e = .returned (.int .u64 (x : Int)) ∧ w = w' := by
  have hc0 := hbx.c0
  by_cases hlt : k < a.length
  · obtain ⟨b1, o1, y, rfl, hb1, hc1, hy, hyl⟩ := ha.word hlt
    have hxy : Hid (y = x) := Lib.hid (by rw [hx.out, hy.out])
    go_enter Tryz.func184, Tryz.ntmps184
    go_wp2
    go_ret
    exact ⟨ret_int (by rw [hxy.out]), rfl⟩
  · have hlt2 : decide (k < a.length) = false := by simp; omega
    have hlt3 : ¬ ((k : Int) < (a.length : Int)) := by omega
    have hx0 : Hid (x = 0) := Lib.hid (by rw [hx.out, List.getD_eq_getElem?_getD, List.getElem?_eq_none (by omega)]; rfl)
    go_enter Tryz.func184, Tryz.ntmps184
    go_wp2
    go_ret
    exact ⟨ret_int (by rw [hx0.out]; rfl), rfl⟩

/-- the leading words of a row that is not longer than n + 3 -/
theorem Kn.val_lead {a : List Nat} {n : Nat} (hl : a.length ≤ n + 3) : Kn.val a = Kn.val (a.take n) + Kn.pw n * (a.getD n 0 + 4294967296 * (a.getD (n + 1) 0 + 4294967296 * a.getD (n + 2) 0)) := by
  have h0 : Kn.val (a.take (n + 3)) = Kn.val a := by rw [List.take_of_length_le hl]
  have h1 := Kn.val_take_step a (n + 2)
  have h2 := Kn.val_take_step a (n + 1)
  have h3 := Kn.val_take_step a n
  rw [Kn.pw_succ, Kn.pw_succ, Nat.mul_assoc 4294967296, Nat.mul_assoc 4294967296, Nat.mul_left_comm 4294967296 (Kn.pw n), Nat.mul_left_comm 4294967296 (Kn.pw n)] at h1
  rw [Kn.pw_succ, Nat.mul_assoc 4294967296, Nat.mul_left_comm 4294967296 (Kn.pw n)] at h2
  rw [Nat.mul_add, Nat.mul_add 4294967296, Nat.mul_add (Kn.pw n)]
  rw [show n + 2 + 1 = n + 3 from rfl, h0] at h1
  rw [show n + 1 + 1 = n + 2 from rfl] at h2
  rw [h1, h2, h3]
  omega

theorem Kn.lead_val {a : List Nat} {n3 s t X : Nat} (ha : Kn.Wd a) (hl : a.length ≤ n3 + 3) (hs : s ≤ 31) (ht : t = 32 - s) (htop : a.getD (n3 + 2) 0 < 2 ^ t) (hX : X = Kn.val a / (Kn.pw n3 * 2 ^ t)) :
    X = ((a.getD (n3 + 2) 0 * 2 ^ (32 + s)) ||| (a.getD (n3 + 1) 0 * 2 ^ s)) ||| (a.getD n3 0 / 2 ^ t) ∧ X < 18446744073709551616 := by
  subst ht
  have LB := Kn.lead_bits hs htop (ha.getD (n3 + 1)) (ha.getD n3)
  have hv := Kn.val_lead (a := a) (n := n3) hl
  have hd : Kn.val a / Kn.pw n3 = a.getD n3 0 + 4294967296 * (a.getD (n3 + 1) 0 + 4294967296 * a.getD (n3 + 2) 0) := by
    rw [hv, Nat.add_mul_div_left _ _ (Kn.pw_pos _), Nat.div_eq_of_lt (Kn.val_take_lt ha n3), Nat.zero_add]
  rw [hX, ← Nat.div_div_eq_div_mul, hd]
  exact ⟨LB.1.symm, LB.2⟩
/-- a product with a power of two, as the machine reckons it -/
theorem shl_word (x k p : Nat) (hp : Hid (p = x * 2 ^ k)) (hl : p < 18446744073709551616) : IntKind.u64.wrap ((x : Int) * 2 ^ k) = (p : Int) := by
  have e : ((x : Int) * 2 ^ k) = (p : Int) := by rw [hp.out, Int.natCast_mul, Int.natCast_pow]; rfl
  rw [e]; exact wrap_nat hl
theorem shr_word (x k p : Nat) (hp : Hid (p = x / 2 ^ k)) : (x : Int) / 2 ^ k = (p : Int) := by
  rw [hp.out, Int.natCast_ediv, Int.natCast_pow]; rfl

set_option maxRecDepth 100000 in
set_option maxHeartbeats 1000000 in
theorem leading_any (A : Option Addr) (c : Nat) (a : List Nat) (n s X : Nat) (w : World) (ha : Sl w w.heap.size A c a) (hla : a.length ≤ n) (hn : 3 ≤ n) (hn2 : n ≤ 999999) (hs : s ≤ 31) (htop : a.getD (n - 1) 0 < 2 ^ (32 - s)) (hX : Hid (X = Kn.val a / (Kn.pw (n - 3) * 2 ^ (32 - s)))) :
    Calls Tryz.prog 180 #[.slice A a.length c, .int .i64 (n : Int), .int .i64 (s : Int)] w fun e w' => e = .returned (.int .u64 (X : Int)) ∧ X < 18446744073709551616 ∧ Below w.heap.size w w' := by
  obtain ⟨w1, hw1⟩ : ∃ x, Hid (x = a.getD (n - 1) 0) := ⟨_, Lib.hid rfl⟩
  obtain ⟨w2, hw2⟩ : ∃ x, Hid (x = a.getD (n - 2) 0) := ⟨_, Lib.hid rfl⟩
  obtain ⟨w3, hw3⟩ : ∃ x, Hid (x = a.getD (n - 3) 0) := ⟨_, Lib.hid rfl⟩
  obtain ⟨n1, hn1⟩ : ∃ x, x = n - 1 := ⟨_, rfl⟩
  obtain ⟨n2, hn2'⟩ : ∃ x, x = n - 2 := ⟨_, rfl⟩
  obtain ⟨n3, hn3⟩ : ∃ x, x = n - 3 := ⟨_, rfl⟩
  obtain ⟨t, ht⟩ : ∃ t, t = 32 - s := ⟨_, rfl⟩
  rw [← hn1] at hw1 htop
  rw [← hn2'] at hw2
  rw [← hn3] at hw3 hX
  rw [← ht] at htop hX
  rw [← hw1.out] at htop
  have l2 : w2 < 4294967296 := by rw [hw2.out]; exact ha.wd.getD _
  have l3 : w3 < 4294967296 := by rw [hw3.out]; exact ha.wd.getD _
  have hXe : X = ((w1 * 2 ^ (32 + s)) ||| (w2 * 2 ^ s)) ||| (w3 / 2 ^ t) ∧ X < 18446744073709551616 := by
    have h := Kn.lead_val (n3 := n3) (X := X) ha.wd (by omega) hs ht (by rw [show n3 + 2 = n1 by omega, ← hw1.out]; exact htop) hX.out
    rw [show n3 + 1 = n2 by omega, show n3 + 2 = n1 by omega, ← hw1.out, ← hw2.out, ← hw3.out] at h
    exact h
  have HX := Lib.hid hXe
  have hp1 : w1 * 2 ^ (32 + s) < 18446744073709551616 := by
    have h1 : (w1 + 1) * 2 ^ (32 + s) ≤ 2 ^ t * 2 ^ (32 + s) := Nat.mul_le_mul_right _ htop
    rw [← Nat.pow_add, show t + (32 + s) = 64 by omega, Nat.add_mul] at h1
    have := Nat.pow_pos (n := 32 + s) (show 0 < 2 by decide)
    omega
  have hp2 : w2 * 2 ^ s < 18446744073709551616 := by
    have h1 : w2 * 2 ^ s ≤ 4294967295 * 2 ^ 31 := Nat.mul_le_mul (by omega) (Nat.pow_le_pow_right (by decide) hs)
    omega
  obtain ⟨p1, hP1⟩ : ∃ p, Hid (p = w1 * 2 ^ (32 + s)) := ⟨_, Lib.hid rfl⟩
  obtain ⟨p2, hP2⟩ : ∃ p, Hid (p = w2 * 2 ^ s) := ⟨_, Lib.hid rfl⟩
  obtain ⟨p3, hP3⟩ : ∃ p, Hid (p = w3 / 2 ^ t) := ⟨_, Lib.hid rfl⟩
  obtain ⟨p4, hP4⟩ : ∃ p, Hid (p = p1 ||| p2) := ⟨_, Lib.hid rfl⟩
  have l1 : p1 < 18446744073709551616 := by rw [hP1.out]; exact hp1
  have l2' : p2 < 18446744073709551616 := by rw [hP2.out]; exact hp2
  have l3' : p3 < 18446744073709551616 := by rw [hP3.out]; exact Nat.lt_of_le_of_lt (Nat.div_le_self _ _) (by omega)
  have l4 : p4 < 18446744073709551616 := by rw [hP4.out]; exact Nat.or_lt_two_pow (n := 64) l1 l2'
  have q1 := shl_word w1 (32 + s) p1 hP1 l1
  have q2 := shl_word w2 s p2 hP2 l2'
  have q3 := shr_word w3 t p3 hP3
  have q4 : bits BinOp.or IntKind.u64 (p1 : Int) (p2 : Int) = (p4 : Int) := by rw [or_any64 _ _ l1 l2', hP4.out]
  have q5 : bits BinOp.or IntKind.u64 (p4 : Int) (p3 : Int) = (X : Int) := by rw [or_any64 _ _ l4 l3', hP4.out, hP1.out, hP2.out, hP3.out, HX.out.1]
  have e1 : (n : Int) - 1 = (n1 : Int) := by omega
  have e2 : (n : Int) - 2 = (n2 : Int) := by omega
  have e3 : (n : Int) - 3 = (n3 : Int) := by omega
  have e4 : ((32 : Int) + (s : Int)).toNat = 32 + s := by omega
  have e5 : (32 : Int) - (s : Int) = (t : Int) := by omega
  have b1 : n1 ≤ 1000000000 := by omega
  have b2 : n2 ≤ 1000000000 := by omega
  have b3 : n3 ≤ 1000000000 := by omega
  have htb : t ≤ 32 := by omega
  clear hp1 hp2 hn1 hn2' hn3 ht htop hXe
  go_enter Tryz.func180, Tryz.ntmps180
  go_wp2_with fail
  have hbx := BxS.new_ w A a.length c 22
  have hA := ha.alloc (Nat.le_refl _) (.cells #[.slice A a.length c] 22)
  have bel := al1 w (.cells #[.slice A a.length c] 22)
  revert hbx hA bel
  generalize w.alloc (.cells #[.slice A a.length c] 22) = wx
  generalize hbb : w.heap.size = bb
  intro hbx hA bel
  have C1 := Lib.hid (fun q => leadWord_any bb A c a n1 w1 (wx.drewN q) _ (hbx.drewN q) (hA.drewN q) b1 hw1)
  have C2 := Lib.hid (fun q => leadWord_any bb A c a n2 w2 (wx.drewN q) _ (hbx.drewN q) (hA.drewN q) b2 hw2)
  have C3 := Lib.hid (fun q => leadWord_any bb A c a n3 w3 (wx.drewN q) _ (hbx.drewN q) (hA.drewN q) b3 hw3)
  go_quiet ((go_at_call 184; first | with_reducible exact quiet_of_eq (C1.out _) | with_reducible exact quiet_of_eq (C2.out _) | with_reducible exact quiet_of_eq (C3.out _) | with_reducible exact quiet_more (C1.out _) | with_reducible exact quiet_more (C2.out _) | with_reducible exact quiet_more (C3.out _)))
  go_wp2_with fail
  go_ret
  exact ⟨rfl, HX.out.2, by rw [hbb]; exact bDrew bel _⟩
end Go.Proofs.YtkpomjdablopaaaGreatDoor
