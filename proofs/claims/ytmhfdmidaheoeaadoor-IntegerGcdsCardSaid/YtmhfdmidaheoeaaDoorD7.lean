/- Walks: Divide. -/
import Derived.Test.YtmhfdmidaheoeaaDoorD5
import Derived.Test.YtmhfdmidaheoeaaDoorDz
import Derived.Test.YtmhfdmidaheoeaaDoorW9
namespace Go.Proofs.YtmhfdmidaheoeaaDoor
open Go.RowKit
set_option linter.unusedVariables false

/-- two arguments in boxes, and two results -/
structure B4 (w wr : World) (nx : Bool) (A : Option Addr) (n ca : Nat) (ny : Bool) (B : Option Addr) (m cb : Nat) : Prop where
  t1 : Two wr w.heap.size (.bool nx) (.slice A n ca)
  t2 : Two wr (w.heap.size + 1) (.bool ny) (.slice B m cb)
  t3 : Two wr (w.heap.size + 2) (.bool false) (.slice none 0 0)
  t4 : Two wr (w.heap.size + 3) (.bool false) (.slice none 0 0)
  bel : Below w.heap.size w wr
section
variable {w wr wx : World} {nx ny : Bool} {A B : Option Addr} {n m ca cb : Nat}
theorem B4.below (h : B4 w wr nx A n ca ny B m cb) (hb : Below wr.heap.size wr wx) : B4 w wx nx A n ca ny B m cb := ⟨h.t1.below hb h.t1.lt, h.t2.below hb h.t2.lt, h.t3.below hb h.t3.lt, h.t4.below hb h.t4.lt, h.bel.trans (hb.mono h.bel.size)⟩
theorem B4.drew (h : B4 w wr nx A n ca ny B m cb) : B4 w wr.drew nx A n ca ny B m cb := ⟨h.t1.drew, h.t2.drew, h.t3.drew, h.t4.drew, bDrew1 h.bel⟩
theorem B4.new_ (w : World) (nx : Bool) (A : Option Addr) (n ca : Nat) (ny : Bool) (B : Option Addr) (m cb : Nat) (T : TypeId) :
    B4 w ((((w.alloc (.cells #[.bool nx, .slice A n ca] T)).alloc (.cells #[.bool ny, .slice B m cb] T)).alloc (.cells #[.bool false, .slice none 0 0] T)).alloc (.cells #[.bool false, .slice none 0 0] T)) nx A n ca ny B m cb := by
  have h := B3.new_ w nx A n ca ny B m cb T
  refine ⟨h.t1.alloc _, h.t2.alloc _, h.t3.alloc _, ?_, h.bel.alloc h.bel.size _⟩
  simpa using Two.new_ (((w.alloc (.cells #[.bool nx, .slice A n ca] T)).alloc (.cells #[.bool ny, .slice B m cb] T)).alloc (.cells #[.bool false, .slice none 0 0] T)) (.bool false) (.slice none 0 0) T
end

/-- two integers and no error -/
def IntRes2 (a b : Int) (w : World) (e : Ending) (w' : World) : Prop :=
  ∃ A c B d, e = .returned (.tuple #[intV (decide (a < 0)) A (Kn.dig a.natAbs).length c, intV (decide (b < 0)) B (Kn.dig b.natAbs).length d, .int .i64 0]) ∧ Sl w' w'.heap.size A c (Kn.dig a.natAbs) ∧ Sl w' w'.heap.size B d (Kn.dig b.natAbs) ∧ Below w.heap.size w w'
/-- behind the stores into both boxes -/
theorem B4.fin {w wr : World} {nx ny : Bool} {A B : Option Addr} {n m ca cb : Nat} (h : B4 w wr nx A n ca ny B m cb) {a b : Int} {A1 B1 : Option Addr} {c1 d1 : Nat} (hs : Sl wr wr.heap.size A1 c1 (Kn.dig a.natAbs)) (ht : Sl wr wr.heap.size B1 d1 (Kn.dig b.natAbs)) (u1 u2 u3 u4 : Value) :
    IntRes2 a b w (.returned (.tuple #[intV (decide (a < 0)) A1 (Kn.dig a.natAbs).length c1, intV (decide (b < 0)) B1 (Kn.dig b.natAbs).length d1, .int .i64 0])) ((((wr.setCell ⟨w.heap.size + 2, 0, none⟩ u1).setCell ⟨w.heap.size + 2, 1, none⟩ u2).setCell ⟨w.heap.size + 3, 0, none⟩ u3).setCell ⟨w.heap.size + 3, 1, none⟩ u4) := by
  have t4 : Two ((wr.setCell ⟨w.heap.size + 2, 0, none⟩ u1).setCell ⟨w.heap.size + 2, 1, none⟩ u2) (w.heap.size + 3) (.bool false) (.slice none 0 0) := (h.t4.far (by simp) _).far (by simp) _
  refine ⟨A1, c1, B1, d1, rfl, ?_, ?_, ?_⟩
  · exact ((hs.put h.t3 u1 u2).put t4 u3 u4).more (by simp [World.setCell])
  · exact ((ht.put h.t3 u1 u2).put t4 u3 u4).more (by simp [World.setCell])
  · exact (((h.bel.setCell (p := ⟨w.heap.size + 2, 0, none⟩) (by simp) _).setCell (p := ⟨w.heap.size + 2, 1, none⟩) (by simp) _).setCell (p := ⟨w.heap.size + 3, 0, none⟩) (by simp) _).setCell (p := ⟨w.heap.size + 3, 1, none⟩) (by simp) _
theorem sl_drew {w : World} {A : Option Addr} {c : Nat} {ws : List Nat} (h : Sl w w.heap.size A c ws) : Sl w.drew w.drew.heap.size A c ws := h.drew
/-- the cells of two boxes behind the stores -/
theorem four_set (w : World) {b b' : Nat} (hbb : b ≠ b') {x y x' y' : Value} (u v u' v' : Value) (h0 : w.cell? ⟨b, 0, none⟩ = some x) (h1 : w.cell? ⟨b, 1, none⟩ = some y) (h2 : w.cell? ⟨b', 0, none⟩ = some x') (h3 : w.cell? ⟨b', 1, none⟩ = some y') :
    ((((w.setCell ⟨b, 0, none⟩ u).setCell ⟨b, 1, none⟩ v).setCell ⟨b', 0, none⟩ u').setCell ⟨b', 1, none⟩ v').cell? ⟨b, 0, none⟩ = some u ∧ ((((w.setCell ⟨b, 0, none⟩ u).setCell ⟨b, 1, none⟩ v).setCell ⟨b', 0, none⟩ u').setCell ⟨b', 1, none⟩ v').cell? ⟨b, 1, none⟩ = some v ∧
    ((((w.setCell ⟨b, 0, none⟩ u).setCell ⟨b, 1, none⟩ v).setCell ⟨b', 0, none⟩ u').setCell ⟨b', 1, none⟩ v').cell? ⟨b', 0, none⟩ = some u' ∧ ((((w.setCell ⟨b, 0, none⟩ u).setCell ⟨b, 1, none⟩ v).setCell ⟨b', 0, none⟩ u').setCell ⟨b', 1, none⟩ v').cell? ⟨b', 1, none⟩ = some v' := by
  have q : ∀ (W : World) (i j : Nat) (y : Value), (W.setCell ⟨b', i, none⟩ y).cell? ⟨b, j, none⟩ = W.cell? ⟨b, j, none⟩ := fun W i j y => World.cell?_of_block (w := W) (Below.heap_setCell W ⟨b', i, none⟩ y b hbb)
  have q' : ∀ (W : World) (i j : Nat) (y : Value), (W.setCell ⟨b, i, none⟩ y).cell? ⟨b', j, none⟩ = W.cell? ⟨b', j, none⟩ := fun W i j y => World.cell?_of_block (w := W) (Below.heap_setCell W ⟨b, i, none⟩ y b' (fun e => hbb e.symm))
  obtain ⟨r0, r1⟩ := two_set w u v h0 h1
  have k2 : ((w.setCell ⟨b, 0, none⟩ u).setCell ⟨b, 1, none⟩ v).cell? ⟨b', 0, none⟩ = some x' := by rw [q', q']; exact h2
  have k3 : ((w.setCell ⟨b, 0, none⟩ u).setCell ⟨b, 1, none⟩ v).cell? ⟨b', 1, none⟩ = some y' := by rw [q', q']; exact h3
  obtain ⟨r2, r3⟩ := two_set ((w.setCell ⟨b, 0, none⟩ u).setCell ⟨b, 1, none⟩ v) u' v' k2 k3
  exact ⟨by rw [q, q]; exact r0, by rw [q, q]; exact r1, r2, r3⟩
end Go.Proofs.YtmhfdmidaheoeaaDoor
/- Walks: Divide, equal signs. -/
namespace Go.Proofs.YtmhfdmidaheoeaaDoor
open Go.RowKit
set_option linter.unusedVariables false

set_option maxRecDepth 100000 in
set_option maxHeartbeats 2000000 in
theorem divide_same (nx : Bool) (A : Option Addr) (ca : Nat) (xs : List Nat) (ny : Bool) (B : Option Addr) (cb : Nat) (ys : List Nat) (w : World) (hx : Sl w w.heap.size A ca xs) (hy : Sl w w.heap.size B cb ys) (hlx : xs.length ≤ 99999) (hly : ys.length ≤ 99999) (h0 : 0 < Kn.val ys) (hn : nx = ny) :
    Calls Tryd.prog 8 #[intV nx A xs.length ca, intV ny B ys.length cb] w (IntRes2 ((Kn.iv nx xs).fdiv (Kn.iv ny ys)) ((Kn.iv nx xs).fmod (Kn.iv ny ys)) w) := by
  obtain ⟨za, hza⟩ : ∃ z : Int, z = (Kn.iv nx xs).fdiv (Kn.iv ny ys) := ⟨_, rfl⟩
  obtain ⟨zb, hzb⟩ : ∃ z : Int, z = (Kn.iv nx xs).fmod (Kn.iv ny ys) := ⟨_, rfl⟩
  rw [← hza, ← hzb]
  have hdx : (Kn.dig (Kn.val xs)).length ≤ 99999 := Nat.le_trans (Kn.dig_len_val hx.wd) hlx
  have hdy : (Kn.dig (Kn.val ys)).length ≤ 99999 := Nat.le_trans (Kn.dig_len_val hy.wd) hly
  have hdp : 0 < (Kn.dig (Kn.val ys)).length := Kn.dig_len_pos.2 h0
  have gz : (((Kn.dig (Kn.val ys)).length : Int) == 0) = false := by rw [beq_eq_false_iff_ne]; omega
  have hQL : (Kn.dig (Kn.val xs / Kn.val ys)).length ≤ 99999 := Nat.le_trans (Kn.dig_len_le (Nat.lt_of_le_of_lt (Nat.div_le_self _ _) Kn.dig_lt)) hdx
  have hRL : (Kn.dig (Kn.val xs % Kn.val ys)).length ≤ 99999 := Nat.le_trans (Kn.dig_len_le (Nat.lt_trans (Nat.mod_lt _ h0) Kn.dig_lt)) hdy
  unfold intV
  subst hn
  have F := Kn.fd_same nx (xs := xs) h0
  rw [← hza, ← hzb] at F
  obtain ⟨F1, F2⟩ := F
  have HQS := Lib.hid (fun (W : World) (A1 : Option Addr) (c1 : Nat) (h : Sl W W.heap.size A1 c1 (Kn.dig (Kn.val xs / Kn.val ys))) => (by have := signed_any false A1 c1 (Kn.dig (Kn.val xs / Kn.val ys)) W h (by omega); rwa [← F1] at this : Calls Tryd.prog 29 #[.bool false, .slice A1 (Kn.dig (Kn.val xs / Kn.val ys)).length c1] W (IntRes za W)))
  have HRS := Lib.hid (fun (W : World) (A1 : Option Addr) (c1 : Nat) (h : Sl W W.heap.size A1 c1 (Kn.dig (Kn.val xs % Kn.val ys))) => (by have := signed_any nx A1 c1 (Kn.dig (Kn.val xs % Kn.val ys)) W h (by omega); rwa [← F2] at this : Calls Tryd.prog 29 #[.bool nx, .slice A1 (Kn.dig (Kn.val xs % Kn.val ys)).length c1] W (IntRes zb W)))
  clear hza hzb F1 F2
  go_enter Tryd.func8, Tryd.ntmps8
  go_wp2_with fail
  have i := B4.new_ w nx A xs.length ca nx B ys.length cb 24
  revert i
  generalize (((w.alloc (.cells #[.bool nx, .slice A xs.length ca] 24)).alloc (.cells #[.bool nx, .slice B ys.length cb] 24)).alloc (.cells #[.bool false, .slice none 0 0] 24)).alloc (.cells #[.bool false, .slice none 0 0] 24) = wx
  intro i
  have hX := (hx.below i.bel).more i.bel.size
  have hY := (hy.below i.bel).more i.bel.size
  have x0 := i.t1.c0
  have x1 := i.t1.c1
  have y0 := i.t2.c0
  have y1 := i.t2.c1
  go_wp2_with fail
  refine (trim_any B cb ys _ _ hY (by omega)).mono ?_
  rintro e w' ⟨rfl, rfl⟩
  go_wp2_with fail
  refine (trim_any A ca xs _ _ hX (by omega)).mono ?_
  rintro e w' ⟨rfl, rfl⟩
  go_wp2_with fail
  refine (divideWords_any (Kn.val xs) (Kn.val ys) A ca B cb wx hX.trim hY.trim h0 (by omega) (by omega)).mono ?_
  rintro e w2 ⟨A1, c1, B1, d1, rfl, hQ, hR, hb⟩
  replace i := i.below hb
  have hY2 := hY.trim.at_ hb (Nat.le_refl _)
  clear x0 x1 y0 y1 hX hY
  have x0 := i.t1.c0
  have y0 := i.t2.c0
  clear hb
  clear hY2
  go_wp2_with fail
  clear x0 y0
  replace i := i.drew
  replace hQ := sl_drew hQ
  replace hR := sl_drew hR
  go_region_held3 (fun w' => w'.cell? ⟨w.heap.size + 1, 0, none⟩ = some (.bool nx))
    (first | with_reducible exact i.t2.c0 | with_reducible exact s1 | with_reducible exact s2)
    (first
      | (go_at_call 29; (with_reducible refine (HQS.out _ _ _ hQ).mono ?_); rintro e w4 ⟨A4, c4, rfl, S4, hb4⟩; replace i := i.below hb4; replace hR := hR.at_ hb4 (Nat.le_refl _); clear hb4)
      | (go_at_call 29; (with_reducible refine (HRS.out _ _ _ hR).mono ?_); rintro e w5 ⟨A5, c5, rfl, S5, hb5⟩; replace i := i.below hb5; replace S4 := S4.at_ hb5 (Nat.le_refl _); clear hb5; have d20 := i.t3.c0; have d21 := i.t3.c1; have f20 := i.t3.fr 0; have f21 := i.t3.fr 1;
          have T4 : Two ((w5.setCell ⟨w.heap.size + 2, 0, none⟩ (.bool (decide (za < 0)))).setCell ⟨w.heap.size + 2, 1, none⟩ (.slice A4 (Kn.dig za.natAbs).length c4)) (w.heap.size + 3) (.bool false) (.slice none 0 0) := (i.t4.far (by simp) _).far (by simp) _;
          have s1 := ((i.t2.far (by simp) (.bool (decide (za < 0))) (p := ⟨w.heap.size + 2, 0, none⟩)).far (by simp) (.slice A4 (Kn.dig za.natAbs).length c4) (p := ⟨w.heap.size + 2, 1, none⟩)).c0; have s2 := ((((i.t2.far (by simp) (.bool (decide (za < 0))) (p := ⟨w.heap.size + 2, 0, none⟩)).far (by simp) (.slice A4 (Kn.dig za.natAbs).length c4) (p := ⟨w.heap.size + 2, 1, none⟩)).far (by simp) (.bool (decide (zb < 0))) (p := ⟨w.heap.size + 3, 0, none⟩)).far (by simp) (.slice A5 (Kn.dig zb.natAbs).length c5) (p := ⟨w.heap.size + 3, 1, none⟩)).c0; have d30 := T4.c0; have d31 := T4.c1; have f30 := T4.fr 0; have f31 := T4.fr 1))
  all_goals
    have R := Lib.hid (four_set w5 (b := w.heap.size + 2) (b' := w.heap.size + 3) (by omega) (.bool (decide (za < 0))) (.slice A4 (Kn.dig za.natAbs).length c4) (.bool (decide (zb < 0))) (.slice A5 (Kn.dig zb.natAbs).length c5) i.t3.c0 i.t3.c1 i.t4.c0 i.t4.c1)
    clear d20 d21 f20 f21 d30 d31 f30 f31 T4 s1 s2
    go_wp2_with fail
    obtain ⟨r0, r1, r2, r3⟩ := R.out
    refine bodyPost_ret (v := .tuple #[.agg #[.bool (decide (za < 0)), .slice A4 (Kn.dig za.natAbs).length c4], .agg #[.bool (decide (zb < 0)), .slice A5 (Kn.dig zb.natAbs).length c5], .int .i64 0]) (by simp [results, Tryd.results8, go_sem, r0, r1, r2, r3]) rfl ?_
    exact i.fin S4 S5 _ _ _ _
end Go.Proofs.YtmhfdmidaheoeaaDoor
/- Walks: Divide, other signs, nothing left. -/
namespace Go.Proofs.YtmhfdmidaheoeaaDoor
open Go.RowKit
set_option linter.unusedVariables false

set_option maxRecDepth 100000 in
set_option maxHeartbeats 2000000 in
theorem divide_diff0 (nx : Bool) (A : Option Addr) (ca : Nat) (xs : List Nat) (ny : Bool) (B : Option Addr) (cb : Nat) (ys : List Nat) (w : World) (hx : Sl w w.heap.size A ca xs) (hy : Sl w w.heap.size B cb ys) (hlx : xs.length ≤ 99999) (hly : ys.length ≤ 99999) (h0 : 0 < Kn.val ys) (hn : nx ≠ ny) (hr : Kn.val xs % Kn.val ys = 0) :
    Calls Tryd.prog 8 #[intV nx A xs.length ca, intV ny B ys.length cb] w (IntRes2 ((Kn.iv nx xs).fdiv (Kn.iv ny ys)) ((Kn.iv nx xs).fmod (Kn.iv ny ys)) w) := by
  obtain ⟨za, hza⟩ : ∃ z : Int, z = (Kn.iv nx xs).fdiv (Kn.iv ny ys) := ⟨_, rfl⟩
  obtain ⟨zb, hzb⟩ : ∃ z : Int, z = (Kn.iv nx xs).fmod (Kn.iv ny ys) := ⟨_, rfl⟩
  rw [← hza, ← hzb]
  have hdx : (Kn.dig (Kn.val xs)).length ≤ 99999 := Nat.le_trans (Kn.dig_len_val hx.wd) hlx
  have hdy : (Kn.dig (Kn.val ys)).length ≤ 99999 := Nat.le_trans (Kn.dig_len_val hy.wd) hly
  have hdp : 0 < (Kn.dig (Kn.val ys)).length := Kn.dig_len_pos.2 h0
  have gz : (((Kn.dig (Kn.val ys)).length : Int) == 0) = false := by rw [beq_eq_false_iff_ne]; omega
  have hQL : (Kn.dig (Kn.val xs / Kn.val ys)).length ≤ 99999 := Nat.le_trans (Kn.dig_len_le (Nat.lt_of_le_of_lt (Nat.div_le_self _ _) Kn.dig_lt)) hdx
  have hRL : (Kn.dig (Kn.val xs % Kn.val ys)).length ≤ 99999 := Nat.le_trans (Kn.dig_len_le (Nat.lt_trans (Nat.mod_lt _ h0) Kn.dig_lt)) hdy
  unfold intV
  have gne : (nx != ny) = true := by cases nx <;> cases ny <;> first | rfl | exact absurd rfl hn
  have gne2 : (nx == ny) = false := by cases nx <;> cases ny <;> first | rfl | exact absurd rfl hn
  have F := Kn.fd_diff0 hn (xs := xs) h0 hr
  rw [← hza, ← hzb] at F
  obtain ⟨F1, F2⟩ := F
  obtain ⟨R0, hR0⟩ : ∃ R, Hid (R = Kn.val xs % Kn.val ys) := ⟨_, Lib.hid rfl⟩
  have F2' : zb = Kn.iv ny (Kn.dig R0) := by rw [F2, hR0.out, hr]
  have hRL' : (Kn.dig R0).length ≤ 99999 := by rw [hR0.out]; exact hRL
  have gl : decide (0 < (Kn.dig R0).length) = false := by rw [hR0.out, hr, Kn.dig_zero]; rfl
  have gl2 : decide ((0 : Int) < ((Kn.dig R0).length : Int)) = false := by rw [hR0.out, hr, Kn.dig_zero]; rfl
  have HQS := Lib.hid (fun (W : World) (A1 : Option Addr) (c1 : Nat) (h : Sl W W.heap.size A1 c1 (Kn.dig (Kn.val xs / Kn.val ys))) => (by have := signed_any true A1 c1 (Kn.dig (Kn.val xs / Kn.val ys)) W h (by omega); rwa [← F1] at this : Calls Tryd.prog 29 #[.bool true, .slice A1 (Kn.dig (Kn.val xs / Kn.val ys)).length c1] W (IntRes za W)))
  have HRS := Lib.hid (fun (W : World) (A1 : Option Addr) (c1 : Nat) (h : Sl W W.heap.size A1 c1 (Kn.dig (R0))) => (by have := signed_any ny A1 c1 (Kn.dig (R0)) W h (by omega); rwa [← F2'] at this : Calls Tryd.prog 29 #[.bool ny, .slice A1 (Kn.dig (R0)).length c1] W (IntRes zb W)))
  clear hza hzb F1 F2 F2' hr hRL
  go_enter Tryd.func8, Tryd.ntmps8
  go_wp2_with fail
  have i := B4.new_ w nx A xs.length ca ny B ys.length cb 24
  revert i
  generalize (((w.alloc (.cells #[.bool nx, .slice A xs.length ca] 24)).alloc (.cells #[.bool ny, .slice B ys.length cb] 24)).alloc (.cells #[.bool false, .slice none 0 0] 24)).alloc (.cells #[.bool false, .slice none 0 0] 24) = wx
  intro i
  have hX := (hx.below i.bel).more i.bel.size
  have hY := (hy.below i.bel).more i.bel.size
  have x0 := i.t1.c0
  have x1 := i.t1.c1
  have y0 := i.t2.c0
  have y1 := i.t2.c1
  go_wp2_with fail
  refine (trim_any B cb ys _ _ hY (by omega)).mono ?_
  rintro e w' ⟨rfl, rfl⟩
  go_wp2_with fail
  refine (trim_any A ca xs _ _ hX (by omega)).mono ?_
  rintro e w' ⟨rfl, rfl⟩
  go_wp2_with fail
  refine (divideWords_any (Kn.val xs) (Kn.val ys) A ca B cb wx hX.trim hY.trim h0 (by omega) (by omega)).mono ?_
  rintro e w2 ⟨A1, c1, B1, d1, rfl, hQ, hR, hb⟩
  replace i := i.below hb
  have hY2 := hY.trim.at_ hb (Nat.le_refl _)
  clear x0 x1 y0 y1 hX hY
  have x0 := i.t1.c0
  have y0 := i.t2.c0
  clear hb
  clear hY2
  rw [← hR0.out] at hR ⊢
  go_wp2_with fail
  clear x0 y0
  replace i := i.drew
  replace hQ := sl_drew hQ
  replace hR := sl_drew hR
  go_region_held3 (fun w' => w'.cell? ⟨w.heap.size + 1, 0, none⟩ = some (.bool ny))
    (first | with_reducible exact i.t2.c0 | with_reducible exact s1 | with_reducible exact s2)
    (first
      | (go_at_call 29; (with_reducible refine (HQS.out _ _ _ hQ).mono ?_); rintro e w4 ⟨A4, c4, rfl, S4, hb4⟩; replace i := i.below hb4; replace hR := hR.at_ hb4 (Nat.le_refl _); clear hb4)
      | (go_at_call 29; (with_reducible refine (HRS.out _ _ _ hR).mono ?_); rintro e w5 ⟨A5, c5, rfl, S5, hb5⟩; replace i := i.below hb5; replace S4 := S4.at_ hb5 (Nat.le_refl _); clear hb5; have d20 := i.t3.c0; have d21 := i.t3.c1; have f20 := i.t3.fr 0; have f21 := i.t3.fr 1;
          have T4 : Two ((w5.setCell ⟨w.heap.size + 2, 0, none⟩ (.bool (decide (za < 0)))).setCell ⟨w.heap.size + 2, 1, none⟩ (.slice A4 (Kn.dig za.natAbs).length c4)) (w.heap.size + 3) (.bool false) (.slice none 0 0) := (i.t4.far (by simp) _).far (by simp) _;
          have s1 := ((i.t2.far (by simp) (.bool (decide (za < 0))) (p := ⟨w.heap.size + 2, 0, none⟩)).far (by simp) (.slice A4 (Kn.dig za.natAbs).length c4) (p := ⟨w.heap.size + 2, 1, none⟩)).c0; have s2 := ((((i.t2.far (by simp) (.bool (decide (za < 0))) (p := ⟨w.heap.size + 2, 0, none⟩)).far (by simp) (.slice A4 (Kn.dig za.natAbs).length c4) (p := ⟨w.heap.size + 2, 1, none⟩)).far (by simp) (.bool (decide (zb < 0))) (p := ⟨w.heap.size + 3, 0, none⟩)).far (by simp) (.slice A5 (Kn.dig zb.natAbs).length c5) (p := ⟨w.heap.size + 3, 1, none⟩)).c0; have d30 := T4.c0; have d31 := T4.c1; have f30 := T4.fr 0; have f31 := T4.fr 1))
  all_goals
    have R := Lib.hid (four_set w5 (b := w.heap.size + 2) (b' := w.heap.size + 3) (by omega) (.bool (decide (za < 0))) (.slice A4 (Kn.dig za.natAbs).length c4) (.bool (decide (zb < 0))) (.slice A5 (Kn.dig zb.natAbs).length c5) i.t3.c0 i.t3.c1 i.t4.c0 i.t4.c1)
    clear d20 d21 f20 f21 d30 d31 f30 f31 T4 s1 s2
    go_wp2_with fail
    obtain ⟨r0, r1, r2, r3⟩ := R.out
    refine bodyPost_ret (v := .tuple #[.agg #[.bool (decide (za < 0)), .slice A4 (Kn.dig za.natAbs).length c4], .agg #[.bool (decide (zb < 0)), .slice A5 (Kn.dig zb.natAbs).length c5], .int .i64 0]) (by simp [results, Tryd.results8, go_sem, r0, r1, r2, r3]) rfl ?_
    exact i.fin S4 S5 _ _ _ _
end Go.Proofs.YtmhfdmidaheoeaaDoor
/- Walks: Divide, other signs, something left. -/
namespace Go.Proofs.YtmhfdmidaheoeaaDoor
open Go.RowKit
set_option linter.unusedVariables false

set_option maxRecDepth 100000 in
set_option maxHeartbeats 2000000 in
theorem divide_diff1 (nx : Bool) (A : Option Addr) (ca : Nat) (xs : List Nat) (ny : Bool) (B : Option Addr) (cb : Nat) (ys : List Nat) (w : World) (hx : Sl w w.heap.size A ca xs) (hy : Sl w w.heap.size B cb ys) (hlx : xs.length ≤ 99999) (hly : ys.length ≤ 99999) (h0 : 0 < Kn.val ys) (hn : nx ≠ ny) (hr : 0 < Kn.val xs % Kn.val ys) :
    Calls Tryd.prog 8 #[intV nx A xs.length ca, intV ny B ys.length cb] w (IntRes2 ((Kn.iv nx xs).fdiv (Kn.iv ny ys)) ((Kn.iv nx xs).fmod (Kn.iv ny ys)) w) := by
  obtain ⟨za, hza⟩ : ∃ z : Int, z = (Kn.iv nx xs).fdiv (Kn.iv ny ys) := ⟨_, rfl⟩
  obtain ⟨zb, hzb⟩ : ∃ z : Int, z = (Kn.iv nx xs).fmod (Kn.iv ny ys) := ⟨_, rfl⟩
  rw [← hza, ← hzb]
  have hdx : (Kn.dig (Kn.val xs)).length ≤ 99999 := Nat.le_trans (Kn.dig_len_val hx.wd) hlx
  have hdy : (Kn.dig (Kn.val ys)).length ≤ 99999 := Nat.le_trans (Kn.dig_len_val hy.wd) hly
  have hdp : 0 < (Kn.dig (Kn.val ys)).length := Kn.dig_len_pos.2 h0
  have gz : (((Kn.dig (Kn.val ys)).length : Int) == 0) = false := by rw [beq_eq_false_iff_ne]; omega
  have hQL : (Kn.dig (Kn.val xs / Kn.val ys)).length ≤ 99999 := Nat.le_trans (Kn.dig_len_le (Nat.lt_of_le_of_lt (Nat.div_le_self _ _) Kn.dig_lt)) hdx
  have hRL : (Kn.dig (Kn.val xs % Kn.val ys)).length ≤ 99999 := Nat.le_trans (Kn.dig_len_le (Nat.lt_trans (Nat.mod_lt _ h0) Kn.dig_lt)) hdy
  unfold intV
  have gne : (nx != ny) = true := by cases nx <;> cases ny <;> first | rfl | exact absurd rfl hn
  have gne2 : (nx == ny) = false := by cases nx <;> cases ny <;> first | rfl | exact absurd rfl hn
  have F := Kn.fd_diff1 hn (xs := xs) h0 hr
  rw [← hza, ← hzb] at F
  obtain ⟨F1, F2⟩ := F
  obtain ⟨R0, hR0⟩ : ∃ R, Hid (R = Kn.val xs % Kn.val ys) := ⟨_, Lib.hid rfl⟩
  have hR0l : R0 ≤ Kn.val ys := by rw [hR0.out]; exact Nat.le_of_lt (Nat.mod_lt _ h0)
  have hRL' : (Kn.dig R0).length ≤ 99999 := by rw [hR0.out]; exact hRL
  have hp : 0 < (Kn.dig R0).length := by rw [hR0.out]; exact Kn.dig_len_pos.2 hr
  have gl : decide (0 < (Kn.dig R0).length) = true := by simp [hp]
  have gl2 : decide ((0 : Int) < ((Kn.dig R0).length : Int)) = true := by simp; omega
  obtain ⟨Q1, hQ1⟩ : ∃ R, Hid (R = Kn.val xs / Kn.val ys + 1) := ⟨_, Lib.hid rfl⟩
  obtain ⟨R1, hR1⟩ : ∃ R, Hid (R = Kn.val ys - R0) := ⟨_, Lib.hid rfl⟩
  have hQ1L : (Kn.dig Q1).length ≤ 100000 := by
    refine Kn.dig_len_le ?_
    have h1 := @Kn.dig_lt (Kn.val xs / Kn.val ys)
    have h2 := Kn.pw_mono (show (Kn.dig (Kn.val xs / Kn.val ys)).length + 1 ≤ 100000 by omega)
    rw [Kn.pw_succ] at h2
    have h3 := hQ1.out
    have h4 := Kn.pw_pos (Kn.dig (Kn.val xs / Kn.val ys)).length
    generalize Kn.pw 100000 = P at *
    omega
  have hR1L : (Kn.dig R1).length ≤ 99999 := Nat.le_trans (Kn.dig_len_le (Nat.lt_of_le_of_lt (by rw [hR1.out]; exact Nat.sub_le _ _) Kn.dig_lt)) hdy
  have F1' : za = Kn.iv true (Kn.dig Q1) := by rw [F1, hQ1.out]
  have F2' : zb = Kn.iv ny (Kn.dig R1) := by rw [F2, hR1.out, hR0.out]
  have HQS := Lib.hid (fun (W : World) (A1 : Option Addr) (c1 : Nat) (h : Sl W W.heap.size A1 c1 (Kn.dig (Q1))) => (by have := signed_any true A1 c1 (Kn.dig (Q1)) W h (by omega); rwa [← F1'] at this : Calls Tryd.prog 29 #[.bool true, .slice A1 (Kn.dig (Q1)).length c1] W (IntRes za W)))
  have HRS := Lib.hid (fun (W : World) (A1 : Option Addr) (c1 : Nat) (h : Sl W W.heap.size A1 c1 (Kn.dig (R1))) => (by have := signed_any ny A1 c1 (Kn.dig (R1)) W h (by omega); rwa [← F2'] at this : Calls Tryd.prog 29 #[.bool ny, .slice A1 (Kn.dig (R1)).length c1] W (IntRes zb W)))
  clear hza hzb F1 F2 F1' F2' hr hRL
  go_enter Tryd.func8, Tryd.ntmps8
  go_wp2_with fail
  have i := B4.new_ w nx A xs.length ca ny B ys.length cb 24
  revert i
  generalize (((w.alloc (.cells #[.bool nx, .slice A xs.length ca] 24)).alloc (.cells #[.bool ny, .slice B ys.length cb] 24)).alloc (.cells #[.bool false, .slice none 0 0] 24)).alloc (.cells #[.bool false, .slice none 0 0] 24) = wx
  intro i
  have hX := (hx.below i.bel).more i.bel.size
  have hY := (hy.below i.bel).more i.bel.size
  have x0 := i.t1.c0
  have x1 := i.t1.c1
  have y0 := i.t2.c0
  have y1 := i.t2.c1
  go_wp2_with fail
  refine (trim_any B cb ys _ _ hY (by omega)).mono ?_
  rintro e w' ⟨rfl, rfl⟩
  go_wp2_with fail
  refine (trim_any A ca xs _ _ hX (by omega)).mono ?_
  rintro e w' ⟨rfl, rfl⟩
  go_wp2_with fail
  refine (divideWords_any (Kn.val xs) (Kn.val ys) A ca B cb wx hX.trim hY.trim h0 (by omega) (by omega)).mono ?_
  rintro e w2 ⟨A1, c1, B1, d1, rfl, hQ, hR, hb⟩
  replace i := i.below hb
  have hY2 := hY.trim.at_ hb (Nat.le_refl _)
  clear x0 x1 y0 y1 hX hY
  have x0 := i.t1.c0
  have y0 := i.t2.c0
  clear hb
  rw [← hR0.out] at hR ⊢
  have T1 := Sl.one_new w2 1 (by decide)
  go_wp2_with fail
  have hQx := (hQ.alloc (Nat.le_refl _) (.cells #[.int .u32 1] 39)).more (show w2.heap.size ≤ (w2.alloc (.cells #[.int .u32 1] 39)).heap.size by simp)
  have hYx := (hY2.alloc (Nat.le_refl _) (.cells #[.int .u32 1] 39)).more (show w2.heap.size ≤ (w2.alloc (.cells #[.int .u32 1] 39)).heap.size by simp)
  have hRx := (hR.alloc (Nat.le_refl _) (.cells #[.int .u32 1] 39)).more (show w2.heap.size ≤ (w2.alloc (.cells #[.int .u32 1] 39)).heap.size by simp)
  replace i := i.below (al1 w2 (.cells #[.int .u32 1] 39))
  have T1x : Sl (w2.alloc (.cells #[.int .u32 1] 39)) (w2.alloc (.cells #[.int .u32 1] 39)).heap.size (some ⟨w2.heap.size, 0, none⟩) 1 [1] := T1.more (by simp)
  clear T1 hQ hY2 hR x0 y0
  refine (addWords_any A1 c1 (Kn.dig (Kn.val xs / Kn.val ys)) (some ⟨w2.heap.size, 0, none⟩) 1 [1] _ hQx T1x (by omega) (by simp)).mono ?_
  rw [Kn.val_dig, Kn.val_one, ← hQ1.out]
  rintro e w3 ⟨A3, c3, rfl, hQ, hb3⟩
  replace i := i.below hb3
  have hY3 := hYx.at_ hb3 (Nat.le_refl _)
  have hR3 := hRx.at_ hb3 (Nat.le_refl _)
  clear hb3 hQx T1x hYx hRx
  have x0 := i.t1.c0
  have y0 := i.t2.c0
  have hsub := Lib.hid (fun (W : World) (ha : Sl W W.heap.size B cb (Kn.dig (Kn.val ys))) (hb : Sl W W.heap.size B1 d1 (Kn.dig R0)) => (by have := subtractWords_any B cb (Kn.dig (Kn.val ys)) B1 d1 (Kn.dig R0) W ha hb (by omega) (by omega) (by rw [Kn.val_dig, Kn.val_dig]; exact hR0l); rwa [Kn.val_dig, Kn.val_dig, ← hR1.out] at this : Calls Tryd.prog 28 #[.slice B (Kn.dig (Kn.val ys)).length cb, .slice B1 (Kn.dig R0).length d1] W (MagRes R1 W)))
  go_wp2_with fail
  refine (hsub.out _ hY3 hR3).mono ?_
  rintro e w3' ⟨A3', c3', rfl, hR, hb3⟩
  replace i := i.below hb3
  replace hQ := hQ.at_ hb3 (Nat.le_refl _)
  clear hb3 hY3 hR3 x0 y0
  have x0 := i.t1.c0
  have y0 := i.t2.c0
  go_wp2_with fail
  clear x0 y0
  replace i := i.drew
  replace hQ := sl_drew hQ
  replace hR := sl_drew hR
  go_region_held3 (fun w' => w'.cell? ⟨w.heap.size + 1, 0, none⟩ = some (.bool ny))
    (first | with_reducible exact i.t2.c0 | with_reducible exact s1 | with_reducible exact s2)
    (first
      | (go_at_call 29; (with_reducible refine (HQS.out _ _ _ hQ).mono ?_); rintro e w4 ⟨A4, c4, rfl, S4, hb4⟩; replace i := i.below hb4; replace hR := hR.at_ hb4 (Nat.le_refl _); clear hb4)
      | (go_at_call 29; (with_reducible refine (HRS.out _ _ _ hR).mono ?_); rintro e w5 ⟨A5, c5, rfl, S5, hb5⟩; replace i := i.below hb5; replace S4 := S4.at_ hb5 (Nat.le_refl _); clear hb5; have d20 := i.t3.c0; have d21 := i.t3.c1; have f20 := i.t3.fr 0; have f21 := i.t3.fr 1;
          have T4 : Two ((w5.setCell ⟨w.heap.size + 2, 0, none⟩ (.bool (decide (za < 0)))).setCell ⟨w.heap.size + 2, 1, none⟩ (.slice A4 (Kn.dig za.natAbs).length c4)) (w.heap.size + 3) (.bool false) (.slice none 0 0) := (i.t4.far (by simp) _).far (by simp) _;
          have s1 := ((i.t2.far (by simp) (.bool (decide (za < 0))) (p := ⟨w.heap.size + 2, 0, none⟩)).far (by simp) (.slice A4 (Kn.dig za.natAbs).length c4) (p := ⟨w.heap.size + 2, 1, none⟩)).c0; have s2 := ((((i.t2.far (by simp) (.bool (decide (za < 0))) (p := ⟨w.heap.size + 2, 0, none⟩)).far (by simp) (.slice A4 (Kn.dig za.natAbs).length c4) (p := ⟨w.heap.size + 2, 1, none⟩)).far (by simp) (.bool (decide (zb < 0))) (p := ⟨w.heap.size + 3, 0, none⟩)).far (by simp) (.slice A5 (Kn.dig zb.natAbs).length c5) (p := ⟨w.heap.size + 3, 1, none⟩)).c0; have d30 := T4.c0; have d31 := T4.c1; have f30 := T4.fr 0; have f31 := T4.fr 1))
  all_goals
    have R := Lib.hid (four_set w5 (b := w.heap.size + 2) (b' := w.heap.size + 3) (by omega) (.bool (decide (za < 0))) (.slice A4 (Kn.dig za.natAbs).length c4) (.bool (decide (zb < 0))) (.slice A5 (Kn.dig zb.natAbs).length c5) i.t3.c0 i.t3.c1 i.t4.c0 i.t4.c1)
    clear d20 d21 f20 f21 d30 d31 f30 f31 T4 s1 s2
    go_wp2_with fail
    obtain ⟨r0, r1, r2, r3⟩ := R.out
    refine bodyPost_ret (v := .tuple #[.agg #[.bool (decide (za < 0)), .slice A4 (Kn.dig za.natAbs).length c4], .agg #[.bool (decide (zb < 0)), .slice A5 (Kn.dig zb.natAbs).length c5], .int .i64 0]) (by simp [results, Tryd.results8, go_sem, r0, r1, r2, r3]) rfl ?_
    exact i.fin S4 S5 _ _ _ _
end Go.Proofs.YtmhfdmidaheoeaaDoor
/- Walks: Divide, for every two integers. -/
namespace Go.Proofs.YtmhfdmidaheoeaaDoor
open Go.RowKit
set_option linter.unusedVariables false

theorem divide_any (nx : Bool) (A : Option Addr) (ca : Nat) (xs : List Nat) (ny : Bool) (B : Option Addr) (cb : Nat) (ys : List Nat) (w : World) (hx : Sl w w.heap.size A ca xs) (hy : Sl w w.heap.size B cb ys) (hlx : xs.length ≤ 99999) (hly : ys.length ≤ 99999) (h0 : 0 < Kn.val ys) :
    Calls Tryd.prog 8 #[intV nx A xs.length ca, intV ny B ys.length cb] w (IntRes2 ((Kn.iv nx xs).fdiv (Kn.iv ny ys)) ((Kn.iv nx xs).fmod (Kn.iv ny ys)) w) := by
  rcases Decidable.em (nx = ny) with hn | hn
  · exact divide_same nx A ca xs ny B cb ys w hx hy hlx hly h0 hn
  · rcases Nat.eq_zero_or_pos (Kn.val xs % Kn.val ys) with hr | hr
    · exact divide_diff0 nx A ca xs ny B cb ys w hx hy hlx hly h0 hn hr
    · exact divide_diff1 nx A ca xs ny B cb ys w hx hy hlx hly h0 hn hr

set_option maxRecDepth 100000 in
set_option maxHeartbeats 1000000 in
theorem divide_zero (nx : Bool) (A : Option Addr) (ca : Nat) (xs : List Nat) (ny : Bool) (B : Option Addr) (cb : Nat) (ys : List Nat) (w : World) (hy : Sl w w.heap.size B cb ys) (hly : ys.length ≤ 99999) (h0 : Kn.val ys = 0) :
    Calls Tryd.prog 8 #[intV nx A xs.length ca, intV ny B ys.length cb] w fun e w' => e = .returned (.tuple #[intV false none 0 0, intV false none 0 0, .int .i64 1]) ∧ Below w.heap.size w w' := by
  have hd : (Kn.dig (Kn.val ys)).length = 0 := by rw [h0, Kn.dig_zero]; rfl
  have HT := Lib.hid (fun (W : World) (h : Sl W W.heap.size B cb ys) => (by have := trim_any B cb ys W _ h (by omega); rwa [hd] at this : Calls Tryd.prog 25 #[.slice B ys.length cb] W fun e w' => e = .returned (.slice B 0 cb) ∧ W = w'))
  clear hd
  unfold intV
  go_enter Tryd.func8, Tryd.ntmps8
  go_wp2_with fail
  have i := B4.new_ w nx A xs.length ca ny B ys.length cb 24
  revert i
  generalize (((w.alloc (.cells #[.bool nx, .slice A xs.length ca] 24)).alloc (.cells #[.bool ny, .slice B ys.length cb] 24)).alloc (.cells #[.bool false, .slice none 0 0] 24)).alloc (.cells #[.bool false, .slice none 0 0] 24) = wx
  intro i
  have hY := (hy.below i.bel).more i.bel.size
  have y0 := i.t2.c0
  have y1 := i.t2.c1
  have d20 := i.t3.c0
  have d21 := i.t3.c1
  have f20 := i.t3.fr 0
  have f21 := i.t3.fr 1
  have T4 : Two ((wx.setCell ⟨w.heap.size + 2, 0, none⟩ (.bool false)).setCell ⟨w.heap.size + 2, 1, none⟩ (.slice none 0 0)) (w.heap.size + 3) (.bool false) (.slice none 0 0) := (i.t4.far (by simp) _).far (by simp) _
  have d30 := T4.c0
  have d31 := T4.c1
  have f30 := T4.fr 0
  have f31 := T4.fr 1
  have R := Lib.hid (four_set wx (b := w.heap.size + 2) (b' := w.heap.size + 3) (by omega) (.bool false) (.slice none 0 0) (.bool false) (.slice none 0 0) i.t3.c0 i.t3.c1 i.t4.c0 i.t4.c1)
  go_wp2_with fail
  refine (HT.out _ hY).mono ?_
  rintro e w' ⟨rfl, rfl⟩
  go_wp2_with fail
  obtain ⟨r0, r1, r2, r3⟩ := R.out
  refine bodyPost_ret (v := .tuple #[.agg #[.bool false, .slice none 0 0], .agg #[.bool false, .slice none 0 0], .int .i64 1]) (by simp [results, Tryd.results8, go_sem, r0, r1, r2, r3]) rfl ?_
  exact ⟨rfl, (((i.bel.setCell (p := ⟨w.heap.size + 2, 0, none⟩) (by simp) _).setCell (p := ⟨w.heap.size + 2, 1, none⟩) (by simp) _).setCell (p := ⟨w.heap.size + 3, 0, none⟩) (by simp) _).setCell (p := ⟨w.heap.size + 3, 1, none⟩) (by simp) _⟩
end Go.Proofs.YtmhfdmidaheoeaaDoor
