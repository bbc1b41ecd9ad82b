/- My texts, packed: D7, E1, Wi. -/
import Derived.Test.YtkpomjdablopaaaGreatDoorZ7
import Derived.Test.YtkpomjdablopaaaGreatDoorZ6
import Derived.Test.YtkpomjdablopaaaGreatDoorZ2
import Derived.Test.YtkpomjdablopaaaGreatDoorZ5
import Derived.Laws.OwnMore
import Derived.Test.YtkpomjdablopaaaGreatDoorZ3
import Derived.Test.YtkpomjdablopaaaGreatDoorZ4
/- Walks: Divide. -/
namespace Go.Proofs.YtkpomjdablopaaaGreatDoor
open Go.RowKit
set_option linter.unusedVariables false

/-- two arguments in boxes, and two results -/
structure B4 (w wr : World) (nx : Bool) (A : Option Addr) (n ca : Nat) (ny : Bool) (B : Option Addr) (m cb : Nat) : Prop where
  t1 : Two wr w.heap.size (.bool nx) (.slice A n ca)
  t2 : Two wr (w.heap.size + 1) (.bool ny) (.slice B m cb)
  t3 : Two wr (w.heap.size + 2) (.bool false) (.slice none 0 0)
  t4 : Two wr (w.heap.size + 3) (.bool false) (.slice none 0 0)
  bel : Below w.heap.size w wr
section
variable {w wr wx : World} {nx ny : Bool} {A B : Option Addr} {n m ca cb : Nat}
theorem B4.below (h : B4 w wr nx A n ca ny B m cb) (hb : Below wr.heap.size wr wx) : B4 w wx nx A n ca ny B m cb := ⟨h.t1.below hb h.t1.lt, h.t2.below hb h.t2.lt, h.t3.below hb h.t3.lt, h.t4.below hb h.t4.lt, h.bel.trans (hb.mono h.bel.size)⟩
theorem B4.drew (h : B4 w wr nx A n ca ny B m cb) : B4 w wr.drew nx A n ca ny B m cb := ⟨h.t1.drew, h.t2.drew, h.t3.drew, h.t4.drew, bDrew1 h.bel⟩
theorem B4.new_ (w : World) (nx : Bool) (A : Option Addr) (n ca : Nat) (ny : Bool) (B : Option Addr) (m cb : Nat) (T : TypeId) :
    B4 w ((((w.alloc (.cells #[.bool nx, .slice A n ca] T)).alloc (.cells #[.bool ny, .slice B m cb] T)).alloc (.cells #[.bool false, .slice none 0 0] T)).alloc (.cells #[.bool false, .slice none 0 0] T)) nx A n ca ny B m cb := by
  have h := B3.new_ w nx A n ca ny B m cb T
  refine ⟨h.t1.alloc _, h.t2.alloc _, h.t3.alloc _, ?_, h.bel.alloc h.bel.size _⟩
  simpa using Two.new_ (((w.alloc (.cells #[.bool nx, .slice A n ca] T)).alloc (.cells #[.bool ny, .slice B m cb] T)).alloc (.cells #[.bool false, .slice none 0 0] T)) (.bool false) (.slice none 0 0) T
end

/-- two integers and no error -/
def IntRes2 (a b : Int) (w : World) (e : Ending) (w' : World) : Prop :=
  ∃ A c B d, e = .returned (.tuple #[intV (decide (a < 0)) A (Kn.dig a.natAbs).length c, intV (decide (b < 0)) B (Kn.dig b.natAbs).length d, .int .i64 0]) ∧ Sl w' w'.heap.size A c (Kn.dig a.natAbs) ∧ Sl w' w'.heap.size B d (Kn.dig b.natAbs) ∧ Below w.heap.size w w'
/-- behind the stores into both boxes -/
theorem B4.fin {w wr : World} {nx ny : Bool} {A B : Option Addr} {n m ca cb : Nat} (h : B4 w wr nx A n ca ny B m cb) {a b : Int} {A1 B1 : Option Addr} {c1 d1 : Nat} (hs : Sl wr wr.heap.size A1 c1 (Kn.dig a.natAbs)) (ht : Sl wr wr.heap.size B1 d1 (Kn.dig b.natAbs)) (u1 u2 u3 u4 : Value) :
    IntRes2 a b w (.returned (.tuple #[intV (decide (a < 0)) A1 (Kn.dig a.natAbs).length c1, intV (decide (b < 0)) B1 (Kn.dig b.natAbs).length d1, .int .i64 0])) ((((wr.setCell ⟨w.heap.size + 2, 0, none⟩ u1).setCell ⟨w.heap.size + 2, 1, none⟩ u2).setCell ⟨w.heap.size + 3, 0, none⟩ u3).setCell ⟨w.heap.size + 3, 1, none⟩ u4) := by
  have t4 : Two ((wr.setCell ⟨w.heap.size + 2, 0, none⟩ u1).setCell ⟨w.heap.size + 2, 1, none⟩ u2) (w.heap.size + 3) (.bool false) (.slice none 0 0) := (h.t4.far (by simp) _).far (by simp) _
  refine ⟨A1, c1, B1, d1, rfl, ?_, ?_, ?_⟩
  · exact ((hs.put h.t3 u1 u2).put t4 u3 u4).more (by simp [World.setCell])
  · exact ((ht.put h.t3 u1 u2).put t4 u3 u4).more (by simp [World.setCell])
  · exact (((h.bel.setCell (p := ⟨w.heap.size + 2, 0, none⟩) (by simp) _).setCell (p := ⟨w.heap.size + 2, 1, none⟩) (by simp) _).setCell (p := ⟨w.heap.size + 3, 0, none⟩) (by simp) _).setCell (p := ⟨w.heap.size + 3, 1, none⟩) (by simp) _
theorem sl_drew {w : World} {A : Option Addr} {c : Nat} {ws : List Nat} (h : Sl w w.heap.size A c ws) : Sl w.drew w.drew.heap.size A c ws := h.drew
/-- the cells of two boxes behind the stores -/
theorem four_set (w : World) {b b' : Nat} (hbb : b ≠ b') {x y x' y' : Value} (u v u' v' : Value) (h0 : w.cell? ⟨b, 0, none⟩ = some x) (h1 : w.cell? ⟨b, 1, none⟩ = some y) (h2 : w.cell? ⟨b', 0, none⟩ = some x') (h3 : w.cell? ⟨b', 1, none⟩ = some y') :
    ((((w.setCell ⟨b, 0, none⟩ u).setCell ⟨b, 1, none⟩ v).setCell ⟨b', 0, none⟩ u').setCell ⟨b', 1, none⟩ v').cell? ⟨b, 0, none⟩ = some u ∧ ((((w.setCell ⟨b, 0, none⟩ u).setCell ⟨b, 1, none⟩ v).setCell ⟨b', 0, none⟩ u').setCell ⟨b', 1, none⟩ v').cell? ⟨b, 1, none⟩ = some v ∧
    ((((w.setCell ⟨b, 0, none⟩ u).setCell ⟨b, 1, none⟩ v).setCell ⟨b', 0, none⟩ u').setCell ⟨b', 1, none⟩ v').cell? ⟨b', 0, none⟩ = some u' ∧ ((((w.setCell ⟨b, 0, none⟩ u).setCell ⟨b, 1, none⟩ v).setCell ⟨b', 0, none⟩ u').setCell ⟨b', 1, none⟩ v').cell? ⟨b', 1, none⟩ = some v' := by
  have q : ∀ (W : World) (i j : Nat) (y : Value), (W.setCell ⟨b', i, none⟩ y).cell? ⟨b, j, none⟩ = W.cell? ⟨b, j, none⟩ := fun W i j y => World.cell?_of_block (w := W) (Below.heap_setCell W ⟨b', i, none⟩ y b hbb)
  have q' : ∀ (W : World) (i j : Nat) (y : Value), (W.setCell ⟨b, i, none⟩ y).cell? ⟨b', j, none⟩ = W.cell? ⟨b', j, none⟩ := fun W i j y => World.cell?_of_block (w := W) (Below.heap_setCell W ⟨b, i, none⟩ y b' (fun e => hbb e.symm))
  obtain ⟨r0, r1⟩ := two_set w u v h0 h1
  have k2 : ((w.setCell ⟨b, 0, none⟩ u).setCell ⟨b, 1, none⟩ v).cell? ⟨b', 0, none⟩ = some x' := by rw [q', q']; exact h2
  have k3 : ((w.setCell ⟨b, 0, none⟩ u).setCell ⟨b, 1, none⟩ v).cell? ⟨b', 1, none⟩ = some y' := by rw [q', q']; exact h3
  obtain ⟨r2, r3⟩ := two_set ((w.setCell ⟨b, 0, none⟩ u).setCell ⟨b, 1, none⟩ v) u' v' k2 k3
  exact ⟨by rw [q, q]; exact r0, by rw [q, q]; exact r1, r2, r3⟩
end Go.Proofs.YtkpomjdablopaaaGreatDoor
/- Walks: Divide, equal signs. -/
namespace Go.Proofs.YtkpomjdablopaaaGreatDoor
open Go.RowKit
set_option linter.unusedVariables false

set_option maxRecDepth 100000 in
set_option maxHeartbeats 2000000 in
theorem divide_same (nx : Bool) (A : Option Addr) (ca : Nat) (xs : List Nat) (ny : Bool) (B : Option Addr) (cb : Nat) (ys : List Nat) (w : World) (hx : Sl w w.heap.size A ca xs) (hy : Sl w w.heap.size B cb ys) (hlx : xs.length ≤ 99999) (hly : ys.length ≤ 99999) (h0 : 0 < Kn.val ys) (hn : nx = ny) :
    Calls Tryz.prog 120 #[intV nx A xs.length ca, intV ny B ys.length cb] w (IntRes2 ((Kn.iv nx xs).fdiv (Kn.iv ny ys)) ((Kn.iv nx xs).fmod (Kn.iv ny ys)) w) := by
  obtain ⟨za, hza⟩ : ∃ z : Int, z = (Kn.iv nx xs).fdiv (Kn.iv ny ys) := ⟨_, rfl⟩
  obtain ⟨zb, hzb⟩ : ∃ z : Int, z = (Kn.iv nx xs).fmod (Kn.iv ny ys) := ⟨_, rfl⟩
  rw [← hza, ← hzb]
  have hdx : (Kn.dig (Kn.val xs)).length ≤ 99999 := Nat.le_trans (Kn.dig_len_val hx.wd) hlx
  have hdy : (Kn.dig (Kn.val ys)).length ≤ 99999 := Nat.le_trans (Kn.dig_len_val hy.wd) hly
  have hdp : 0 < (Kn.dig (Kn.val ys)).length := Kn.dig_len_pos.2 h0
  have gz : (((Kn.dig (Kn.val ys)).length : Int) == 0) = false := by rw [beq_eq_false_iff_ne]; omega
  have hQL : (Kn.dig (Kn.val xs / Kn.val ys)).length ≤ 99999 := Nat.le_trans (Kn.dig_len_le (Nat.lt_of_le_of_lt (Nat.div_le_self _ _) Kn.dig_lt)) hdx
  have hRL : (Kn.dig (Kn.val xs % Kn.val ys)).length ≤ 99999 := Nat.le_trans (Kn.dig_len_le (Nat.lt_trans (Nat.mod_lt _ h0) Kn.dig_lt)) hdy
  unfold intV
  subst hn
  have F := Kn.fd_same nx (xs := xs) h0
  rw [← hza, ← hzb] at F
  obtain ⟨F1, F2⟩ := F
  have HQS := Lib.hid (fun (W : World) (A1 : Option Addr) (c1 : Nat) (h : Sl W W.heap.size A1 c1 (Kn.dig (Kn.val xs / Kn.val ys))) => (by have := signed_any false A1 c1 (Kn.dig (Kn.val xs / Kn.val ys)) W h (by omega); rwa [← F1] at this : Calls Tryz.prog 63 #[.bool false, .slice A1 (Kn.dig (Kn.val xs / Kn.val ys)).length c1] W (IntRes za W)))
  have HRS := Lib.hid (fun (W : World) (A1 : Option Addr) (c1 : Nat) (h : Sl W W.heap.size A1 c1 (Kn.dig (Kn.val xs % Kn.val ys))) => (by have := signed_any nx A1 c1 (Kn.dig (Kn.val xs % Kn.val ys)) W h (by omega); rwa [← F2] at this : Calls Tryz.prog 63 #[.bool nx, .slice A1 (Kn.dig (Kn.val xs % Kn.val ys)).length c1] W (IntRes zb W)))
  clear hza hzb F1 F2
  go_enter Tryz.func120, Tryz.ntmps120
  go_wp2_with fail
  have i := B4.new_ w nx A xs.length ca nx B ys.length cb 24
  revert i
  generalize (((w.alloc (.cells #[.bool nx, .slice A xs.length ca] 24)).alloc (.cells #[.bool nx, .slice B ys.length cb] 24)).alloc (.cells #[.bool false, .slice none 0 0] 24)).alloc (.cells #[.bool false, .slice none 0 0] 24) = wx
  intro i
  have hX := (hx.below i.bel).more i.bel.size
  have hY := (hy.below i.bel).more i.bel.size
  have x0 := i.t1.c0
  have x1 := i.t1.c1
  have y0 := i.t2.c0
  have y1 := i.t2.c1
  go_wp2_with fail
  refine (trim_any B cb ys _ _ hY (by omega)).mono ?_
  rintro e w' ⟨rfl, rfl⟩
  go_wp2_with fail
  refine (trim_any A ca xs _ _ hX (by omega)).mono ?_
  rintro e w' ⟨rfl, rfl⟩
  go_wp2_with fail
  refine (divideWords_any (Kn.val xs) (Kn.val ys) A ca B cb wx hX.trim hY.trim h0 (by omega) (by omega)).mono ?_
  rintro e w2 ⟨A1, c1, B1, d1, rfl, hQ, hR, hb⟩
  replace i := i.below hb
  have hY2 := hY.trim.at_ hb (Nat.le_refl _)
  clear x0 x1 y0 y1 hX hY
  have x0 := i.t1.c0
  have y0 := i.t2.c0
  clear hb
  clear hY2
  go_wp2_with fail
  clear x0 y0
  replace i := i.drew
  replace hQ := sl_drew hQ
  replace hR := sl_drew hR
  go_region_held3 (fun w' => w'.cell? ⟨w.heap.size + 1, 0, none⟩ = some (.bool nx))
    (first | with_reducible exact i.t2.c0 | with_reducible exact s1 | with_reducible exact s2)
    (first
      | (go_at_call 63; (with_reducible refine (HQS.out _ _ _ hQ).mono ?_); rintro e w4 ⟨A4, c4, rfl, S4, hb4⟩; replace i := i.below hb4; replace hR := hR.at_ hb4 (Nat.le_refl _); clear hb4)
      | (go_at_call 63; (with_reducible refine (HRS.out _ _ _ hR).mono ?_); rintro e w5 ⟨A5, c5, rfl, S5, hb5⟩; replace i := i.below hb5; replace S4 := S4.at_ hb5 (Nat.le_refl _); clear hb5; have d20 := i.t3.c0; have d21 := i.t3.c1; have f20 := i.t3.fr 0; have f21 := i.t3.fr 1;
          have T4 : Two ((w5.setCell ⟨w.heap.size + 2, 0, none⟩ (.bool (decide (za < 0)))).setCell ⟨w.heap.size + 2, 1, none⟩ (.slice A4 (Kn.dig za.natAbs).length c4)) (w.heap.size + 3) (.bool false) (.slice none 0 0) := (i.t4.far (by simp) _).far (by simp) _;
          have s1 := ((i.t2.far (by simp) (.bool (decide (za < 0))) (p := ⟨w.heap.size + 2, 0, none⟩)).far (by simp) (.slice A4 (Kn.dig za.natAbs).length c4) (p := ⟨w.heap.size + 2, 1, none⟩)).c0; have s2 := ((((i.t2.far (by simp) (.bool (decide (za < 0))) (p := ⟨w.heap.size + 2, 0, none⟩)).far (by simp) (.slice A4 (Kn.dig za.natAbs).length c4) (p := ⟨w.heap.size + 2, 1, none⟩)).far (by simp) (.bool (decide (zb < 0))) (p := ⟨w.heap.size + 3, 0, none⟩)).far (by simp) (.slice A5 (Kn.dig zb.natAbs).length c5) (p := ⟨w.heap.size + 3, 1, none⟩)).c0; have d30 := T4.c0; have d31 := T4.c1; have f30 := T4.fr 0; have f31 := T4.fr 1))
  all_goals
    have R := Lib.hid (four_set w5 (b := w.heap.size + 2) (b' := w.heap.size + 3) (by omega) (.bool (decide (za < 0))) (.slice A4 (Kn.dig za.natAbs).length c4) (.bool (decide (zb < 0))) (.slice A5 (Kn.dig zb.natAbs).length c5) i.t3.c0 i.t3.c1 i.t4.c0 i.t4.c1)
    clear d20 d21 f20 f21 d30 d31 f30 f31 T4 s1 s2
    go_wp2_with fail
    obtain ⟨r0, r1, r2, r3⟩ := R.out
    refine bodyPost_ret (v := .tuple #[.agg #[.bool (decide (za < 0)), .slice A4 (Kn.dig za.natAbs).length c4], .agg #[.bool (decide (zb < 0)), .slice A5 (Kn.dig zb.natAbs).length c5], .int .i64 0]) (by simp [results, Tryz.results120, go_sem, r0, r1, r2, r3]) rfl ?_
    exact i.fin S4 S5 _ _ _ _
end Go.Proofs.YtkpomjdablopaaaGreatDoor
/- Walks: Divide, other signs, nothing left. -/
namespace Go.Proofs.YtkpomjdablopaaaGreatDoor
open Go.RowKit
set_option linter.unusedVariables false

set_option maxRecDepth 100000 in
set_option maxHeartbeats 2000000 in
theorem divide_diff0 (nx : Bool) (A : Option Addr) (ca : Nat) (xs : List Nat) (ny : Bool) (B : Option Addr) (cb : Nat) (ys : List Nat) (w : World) (hx : Sl w w.heap.size A ca xs) (hy : Sl w w.heap.size B cb ys) (hlx : xs.length ≤ 99999) (hly : ys.length ≤ 99999) (h0 : 0 < Kn.val ys) (hn : nx ≠ ny) (hr : Kn.val xs % Kn.val ys = 0) :
    Calls Tryz.prog 120 #[intV nx A xs.length ca, intV ny B ys.length cb] w (IntRes2 ((Kn.iv nx xs).fdiv (Kn.iv ny ys)) ((Kn.iv nx xs).fmod (Kn.iv ny ys)) w) := by
  obtain ⟨za, hza⟩ : ∃ z : Int, z = (Kn.iv nx xs).fdiv (Kn.iv ny ys) := ⟨_, rfl⟩
  obtain ⟨zb, hzb⟩ : ∃ z : Int, z = (Kn.iv nx xs).fmod (Kn.iv ny ys) := ⟨_, rfl⟩
  rw [← hza, ← hzb]
  have hdx : (Kn.dig (Kn.val xs)).length ≤ 99999 := Nat.le_trans (Kn.dig_len_val hx.wd) hlx
  have hdy : (Kn.dig (Kn.val ys)).length ≤ 99999 := Nat.le_trans (Kn.dig_len_val hy.wd) hly
  have hdp : 0 < (Kn.dig (Kn.val ys)).length := Kn.dig_len_pos.2 h0
  have gz : (((Kn.dig (Kn.val ys)).length : Int) == 0) = false := by rw [beq_eq_false_iff_ne]; omega
  have hQL : (Kn.dig (Kn.val xs / Kn.val ys)).length ≤ 99999 := Nat.le_trans (Kn.dig_len_le (Nat.lt_of_le_of_lt (Nat.div_le_self _ _) Kn.dig_lt)) hdx
  have hRL : (Kn.dig (Kn.val xs % Kn.val ys)).length ≤ 99999 := Nat.le_trans (Kn.dig_len_le (Nat.lt_trans (Nat.mod_lt _ h0) Kn.dig_lt)) hdy
  unfold intV
  have gne : (nx != ny) = true := by cases nx <;> cases ny <;> first | rfl | exact absurd rfl hn
  have gne2 : (nx == ny) = false := by cases nx <;> cases ny <;> first | rfl | exact absurd rfl hn
  have F := Kn.fd_diff0 hn (xs := xs) h0 hr
  rw [← hza, ← hzb] at F
  obtain ⟨F1, F2⟩ := F
  obtain ⟨R0, hR0⟩ : ∃ R, Hid (R = Kn.val xs % Kn.val ys) := ⟨_, Lib.hid rfl⟩
  have F2' : zb = Kn.iv ny (Kn.dig R0) := by rw [F2, hR0.out, hr]
  have hRL' : (Kn.dig R0).length ≤ 99999 := by rw [hR0.out]; exact hRL
  have gl : decide (0 < (Kn.dig R0).length) = false := by rw [hR0.out, hr, Kn.dig_zero]; rfl
  have gl2 : decide ((0 : Int) < ((Kn.dig R0).length : Int)) = false := by rw [hR0.out, hr, Kn.dig_zero]; rfl
  have HQS := Lib.hid (fun (W : World) (A1 : Option Addr) (c1 : Nat) (h : Sl W W.heap.size A1 c1 (Kn.dig (Kn.val xs / Kn.val ys))) => (by have := signed_any true A1 c1 (Kn.dig (Kn.val xs / Kn.val ys)) W h (by omega); rwa [← F1] at this : Calls Tryz.prog 63 #[.bool true, .slice A1 (Kn.dig (Kn.val xs / Kn.val ys)).length c1] W (IntRes za W)))
  have HRS := Lib.hid (fun (W : World) (A1 : Option Addr) (c1 : Nat) (h : Sl W W.heap.size A1 c1 (Kn.dig (R0))) => (by have := signed_any ny A1 c1 (Kn.dig (R0)) W h (by omega); rwa [← F2'] at this : Calls Tryz.prog 63 #[.bool ny, .slice A1 (Kn.dig (R0)).length c1] W (IntRes zb W)))
  clear hza hzb F1 F2 F2' hr hRL
  go_enter Tryz.func120, Tryz.ntmps120
  go_wp2_with fail
  have i := B4.new_ w nx A xs.length ca ny B ys.length cb 24
  revert i
  generalize (((w.alloc (.cells #[.bool nx, .slice A xs.length ca] 24)).alloc (.cells #[.bool ny, .slice B ys.length cb] 24)).alloc (.cells #[.bool false, .slice none 0 0] 24)).alloc (.cells #[.bool false, .slice none 0 0] 24) = wx
  intro i
  have hX := (hx.below i.bel).more i.bel.size
  have hY := (hy.below i.bel).more i.bel.size
  have x0 := i.t1.c0
  have x1 := i.t1.c1
  have y0 := i.t2.c0
  have y1 := i.t2.c1
  go_wp2_with fail
  refine (trim_any B cb ys _ _ hY (by omega)).mono ?_
  rintro e w' ⟨rfl, rfl⟩
  go_wp2_with fail
  refine (trim_any A ca xs _ _ hX (by omega)).mono ?_
  rintro e w' ⟨rfl, rfl⟩
  go_wp2_with fail
  refine (divideWords_any (Kn.val xs) (Kn.val ys) A ca B cb wx hX.trim hY.trim h0 (by omega) (by omega)).mono ?_
  rintro e w2 ⟨A1, c1, B1, d1, rfl, hQ, hR, hb⟩
  replace i := i.below hb
  have hY2 := hY.trim.at_ hb (Nat.le_refl _)
  clear x0 x1 y0 y1 hX hY
  have x0 := i.t1.c0
  have y0 := i.t2.c0
  clear hb
  clear hY2
  rw [← hR0.out] at hR ⊢
  go_wp2_with fail
  clear x0 y0
  replace i := i.drew
  replace hQ := sl_drew hQ
  replace hR := sl_drew hR
  go_region_held3 (fun w' => w'.cell? ⟨w.heap.size + 1, 0, none⟩ = some (.bool ny))
    (first | with_reducible exact i.t2.c0 | with_reducible exact s1 | with_reducible exact s2)
    (first
      | (go_at_call 63; (with_reducible refine (HQS.out _ _ _ hQ).mono ?_); rintro e w4 ⟨A4, c4, rfl, S4, hb4⟩; replace i := i.below hb4; replace hR := hR.at_ hb4 (Nat.le_refl _); clear hb4)
      | (go_at_call 63; (with_reducible refine (HRS.out _ _ _ hR).mono ?_); rintro e w5 ⟨A5, c5, rfl, S5, hb5⟩; replace i := i.below hb5; replace S4 := S4.at_ hb5 (Nat.le_refl _); clear hb5; have d20 := i.t3.c0; have d21 := i.t3.c1; have f20 := i.t3.fr 0; have f21 := i.t3.fr 1;
          have T4 : Two ((w5.setCell ⟨w.heap.size + 2, 0, none⟩ (.bool (decide (za < 0)))).setCell ⟨w.heap.size + 2, 1, none⟩ (.slice A4 (Kn.dig za.natAbs).length c4)) (w.heap.size + 3) (.bool false) (.slice none 0 0) := (i.t4.far (by simp) _).far (by simp) _;
          have s1 := ((i.t2.far (by simp) (.bool (decide (za < 0))) (p := ⟨w.heap.size + 2, 0, none⟩)).far (by simp) (.slice A4 (Kn.dig za.natAbs).length c4) (p := ⟨w.heap.size + 2, 1, none⟩)).c0; have s2 := ((((i.t2.far (by simp) (.bool (decide (za < 0))) (p := ⟨w.heap.size + 2, 0, none⟩)).far (by simp) (.slice A4 (Kn.dig za.natAbs).length c4) (p := ⟨w.heap.size + 2, 1, none⟩)).far (by simp) (.bool (decide (zb < 0))) (p := ⟨w.heap.size + 3, 0, none⟩)).far (by simp) (.slice A5 (Kn.dig zb.natAbs).length c5) (p := ⟨w.heap.size + 3, 1, none⟩)).c0; have d30 := T4.c0; have d31 := T4.c1; have f30 := T4.fr 0; have f31 := T4.fr 1))
  all_goals
    have R := Lib.hid (four_set w5 (b := w.heap.size + 2) (b' := w.heap.size + 3) (by omega) (.bool (decide (za < 0))) (.slice A4 (Kn.dig za.natAbs).length c4) (.bool (decide (zb < 0))) (.slice A5 (Kn.dig zb.natAbs).length c5) i.t3.c0 i.t3.c1 i.t4.c0 i.t4.c1)
    clear d20 d21 f20 f21 d30 d31 f30 f31 T4 s1 s2
    go_wp2_with fail
    obtain ⟨r0, r1, r2, r3⟩ := R.out
    refine bodyPost_ret (v := .tuple #[.agg #[.bool (decide (za < 0)), .slice A4 (Kn.dig za.natAbs).length c4], .agg #[.bool (decide (zb < 0)), .slice A5 (Kn.dig zb.natAbs).length c5], .int .i64 0]) (by simp [results, Tryz.results120, go_sem, r0, r1, r2, r3]) rfl ?_
    exact i.fin S4 S5 _ _ _ _
end Go.Proofs.YtkpomjdablopaaaGreatDoor
/- Walks: Divide, other signs, something left. -/
namespace Go.Proofs.YtkpomjdablopaaaGreatDoor
open Go.RowKit
set_option linter.unusedVariables false

set_option maxRecDepth 100000 in
set_option maxHeartbeats 2000000 in
theorem divide_diff1 (nx : Bool) (A : Option Addr) (ca : Nat) (xs : List Nat) (ny : Bool) (B : Option Addr) (cb : Nat) (ys : List Nat) (w : World) (hx : Sl w w.heap.size A ca xs) (hy : Sl w w.heap.size B cb ys) (hlx : xs.length ≤ 99999) (hly : ys.length ≤ 99999) (h0 : 0 < Kn.val ys) (hn : nx ≠ ny) (hr : 0 < Kn.val xs % Kn.val ys) :
    Calls Tryz.prog 120 #[intV nx A xs.length ca, intV ny B ys.length cb] w (IntRes2 ((Kn.iv nx xs).fdiv (Kn.iv ny ys)) ((Kn.iv nx xs).fmod (Kn.iv ny ys)) w) := by
  obtain ⟨za, hza⟩ : ∃ z : Int, z = (Kn.iv nx xs).fdiv (Kn.iv ny ys) := ⟨_, rfl⟩
  obtain ⟨zb, hzb⟩ : ∃ z : Int, z = (Kn.iv nx xs).fmod (Kn.iv ny ys) := ⟨_, rfl⟩
  rw [← hza, ← hzb]
  have hdx : (Kn.dig (Kn.val xs)).length ≤ 99999 := Nat.le_trans (Kn.dig_len_val hx.wd) hlx
  have hdy : (Kn.dig (Kn.val ys)).length ≤ 99999 := Nat.le_trans (Kn.dig_len_val hy.wd) hly
  have hdp : 0 < (Kn.dig (Kn.val ys)).length := Kn.dig_len_pos.2 h0
  have gz : (((Kn.dig (Kn.val ys)).length : Int) == 0) = false := by rw [beq_eq_false_iff_ne]; omega
  have hQL : (Kn.dig (Kn.val xs / Kn.val ys)).length ≤ 99999 := Nat.le_trans (Kn.dig_len_le (Nat.lt_of_le_of_lt (Nat.div_le_self _ _) Kn.dig_lt)) hdx
  have hRL : (Kn.dig (Kn.val xs % Kn.val ys)).length ≤ 99999 := Nat.le_trans (Kn.dig_len_le (Nat.lt_trans (Nat.mod_lt _ h0) Kn.dig_lt)) hdy
  unfold intV
  have gne : (nx != ny) = true := by cases nx <;> cases ny <;> first | rfl | exact absurd rfl hn
  have gne2 : (nx == ny) = false := by cases nx <;> cases ny <;> first | rfl | exact absurd rfl hn
  have F := Kn.fd_diff1 hn (xs := xs) h0 hr
  rw [← hza, ← hzb] at F
  obtain ⟨F1, F2⟩ := F
  obtain ⟨R0, hR0⟩ : ∃ R, Hid (R = Kn.val xs % Kn.val ys) := ⟨_, Lib.hid rfl⟩
  have hR0l : R0 ≤ Kn.val ys := by rw [hR0.out]; exact Nat.le_of_lt (Nat.mod_lt _ h0)
  have hRL' : (Kn.dig R0).length ≤ 99999 := by rw [hR0.out]; exact hRL
  have hp : 0 < (Kn.dig R0).length := by rw [hR0.out]; exact Kn.dig_len_pos.2 hr
  have gl : decide (0 < (Kn.dig R0).length) = true := by simp [hp]
  have gl2 : decide ((0 : Int) < ((Kn.dig R0).length : Int)) = true := by simp; omega
  obtain ⟨Q1, hQ1⟩ : ∃ R, Hid (R = Kn.val xs / Kn.val ys + 1) := ⟨_, Lib.hid rfl⟩
  obtain ⟨R1, hR1⟩ : ∃ R, Hid (R = Kn.val ys - R0) := ⟨_, Lib.hid rfl⟩
  have hQ1L : (Kn.dig Q1).length ≤ 100000 := by
    refine Kn.dig_len_le ?_
    have h1 := @Kn.dig_lt (Kn.val xs / Kn.val ys)
    have h2 := Kn.pw_mono (show (Kn.dig (Kn.val xs / Kn.val ys)).length + 1 ≤ 100000 by omega)
    rw [Kn.pw_succ] at h2
    have h3 := hQ1.out
    have h4 := Kn.pw_pos (Kn.dig (Kn.val xs / Kn.val ys)).length
    generalize Kn.pw 100000 = P at *
    omega
  have hR1L : (Kn.dig R1).length ≤ 99999 := Nat.le_trans (Kn.dig_len_le (Nat.lt_of_le_of_lt (by rw [hR1.out]; exact Nat.sub_le _ _) Kn.dig_lt)) hdy
  have F1' : za = Kn.iv true (Kn.dig Q1) := by rw [F1, hQ1.out]
  have F2' : zb = Kn.iv ny (Kn.dig R1) := by rw [F2, hR1.out, hR0.out]
  have HQS := Lib.hid (fun (W : World) (A1 : Option Addr) (c1 : Nat) (h : Sl W W.heap.size A1 c1 (Kn.dig (Q1))) => (by have := signed_any true A1 c1 (Kn.dig (Q1)) W h (by omega); rwa [← F1'] at this : Calls Tryz.prog 63 #[.bool true, .slice A1 (Kn.dig (Q1)).length c1] W (IntRes za W)))
  have HRS := Lib.hid (fun (W : World) (A1 : Option Addr) (c1 : Nat) (h : Sl W W.heap.size A1 c1 (Kn.dig (R1))) => (by have := signed_any ny A1 c1 (Kn.dig (R1)) W h (by omega); rwa [← F2'] at this : Calls Tryz.prog 63 #[.bool ny, .slice A1 (Kn.dig (R1)).length c1] W (IntRes zb W)))
  clear hza hzb F1 F2 F1' F2' hr hRL
  go_enter Tryz.func120, Tryz.ntmps120
  go_wp2_with fail
  have i := B4.new_ w nx A xs.length ca ny B ys.length cb 24
  revert i
  generalize (((w.alloc (.cells #[.bool nx, .slice A xs.length ca] 24)).alloc (.cells #[.bool ny, .slice B ys.length cb] 24)).alloc (.cells #[.bool false, .slice none 0 0] 24)).alloc (.cells #[.bool false, .slice none 0 0] 24) = wx
  intro i
  have hX := (hx.below i.bel).more i.bel.size
  have hY := (hy.below i.bel).more i.bel.size
  have x0 := i.t1.c0
  have x1 := i.t1.c1
  have y0 := i.t2.c0
  have y1 := i.t2.c1
  go_wp2_with fail
  refine (trim_any B cb ys _ _ hY (by omega)).mono ?_
  rintro e w' ⟨rfl, rfl⟩
  go_wp2_with fail
  refine (trim_any A ca xs _ _ hX (by omega)).mono ?_
  rintro e w' ⟨rfl, rfl⟩
  go_wp2_with fail
  refine (divideWords_any (Kn.val xs) (Kn.val ys) A ca B cb wx hX.trim hY.trim h0 (by omega) (by omega)).mono ?_
  rintro e w2 ⟨A1, c1, B1, d1, rfl, hQ, hR, hb⟩
  replace i := i.below hb
  have hY2 := hY.trim.at_ hb (Nat.le_refl _)
  clear x0 x1 y0 y1 hX hY
  have x0 := i.t1.c0
  have y0 := i.t2.c0
  clear hb
  rw [← hR0.out] at hR ⊢
  have T1 := Sl.one_new w2 1 (by decide)
  go_wp2_with fail
  have hQx := (hQ.alloc (Nat.le_refl _) (.cells #[.int .u32 1] 88)).more (show w2.heap.size ≤ (w2.alloc (.cells #[.int .u32 1] 88)).heap.size by simp)
  have hYx := (hY2.alloc (Nat.le_refl _) (.cells #[.int .u32 1] 88)).more (show w2.heap.size ≤ (w2.alloc (.cells #[.int .u32 1] 88)).heap.size by simp)
  have hRx := (hR.alloc (Nat.le_refl _) (.cells #[.int .u32 1] 88)).more (show w2.heap.size ≤ (w2.alloc (.cells #[.int .u32 1] 88)).heap.size by simp)
  replace i := i.below (al1 w2 (.cells #[.int .u32 1] 88))
  have T1x : Sl (w2.alloc (.cells #[.int .u32 1] 88)) (w2.alloc (.cells #[.int .u32 1] 88)).heap.size (some ⟨w2.heap.size, 0, none⟩) 1 [1] := T1.more (by simp)
  clear T1 hQ hY2 hR x0 y0
  refine (addWords_any A1 c1 (Kn.dig (Kn.val xs / Kn.val ys)) (some ⟨w2.heap.size, 0, none⟩) 1 [1] _ hQx T1x (by omega) (by simp)).mono ?_
  rw [Kn.val_dig, Kn.val_one, ← hQ1.out]
  rintro e w3 ⟨A3, c3, rfl, hQ, hb3⟩
  replace i := i.below hb3
  have hY3 := hYx.at_ hb3 (Nat.le_refl _)
  have hR3 := hRx.at_ hb3 (Nat.le_refl _)
  clear hb3 hQx T1x hYx hRx
  have x0 := i.t1.c0
  have y0 := i.t2.c0
  have hsub := Lib.hid (fun (W : World) (ha : Sl W W.heap.size B cb (Kn.dig (Kn.val ys))) (hb : Sl W W.heap.size B1 d1 (Kn.dig R0)) => (by have := subtractWords_any B cb (Kn.dig (Kn.val ys)) B1 d1 (Kn.dig R0) W ha hb (by omega) (by omega) (by rw [Kn.val_dig, Kn.val_dig]; exact hR0l); rwa [Kn.val_dig, Kn.val_dig, ← hR1.out] at this : Calls Tryz.prog 122 #[.slice B (Kn.dig (Kn.val ys)).length cb, .slice B1 (Kn.dig R0).length d1] W (MagRes R1 W)))
  go_wp2_with fail
  refine (hsub.out _ hY3 hR3).mono ?_
  rintro e w3' ⟨A3', c3', rfl, hR, hb3⟩
  replace i := i.below hb3
  replace hQ := hQ.at_ hb3 (Nat.le_refl _)
  clear hb3 hY3 hR3 x0 y0
  have x0 := i.t1.c0
  have y0 := i.t2.c0
  go_wp2_with fail
  clear x0 y0
  replace i := i.drew
  replace hQ := sl_drew hQ
  replace hR := sl_drew hR
  go_region_held3 (fun w' => w'.cell? ⟨w.heap.size + 1, 0, none⟩ = some (.bool ny))
    (first | with_reducible exact i.t2.c0 | with_reducible exact s1 | with_reducible exact s2)
    (first
      | (go_at_call 63; (with_reducible refine (HQS.out _ _ _ hQ).mono ?_); rintro e w4 ⟨A4, c4, rfl, S4, hb4⟩; replace i := i.below hb4; replace hR := hR.at_ hb4 (Nat.le_refl _); clear hb4)
      | (go_at_call 63; (with_reducible refine (HRS.out _ _ _ hR).mono ?_); rintro e w5 ⟨A5, c5, rfl, S5, hb5⟩; replace i := i.below hb5; replace S4 := S4.at_ hb5 (Nat.le_refl _); clear hb5; have d20 := i.t3.c0; have d21 := i.t3.c1; have f20 := i.t3.fr 0; have f21 := i.t3.fr 1;
          have T4 : Two ((w5.setCell ⟨w.heap.size + 2, 0, none⟩ (.bool (decide (za < 0)))).setCell ⟨w.heap.size + 2, 1, none⟩ (.slice A4 (Kn.dig za.natAbs).length c4)) (w.heap.size + 3) (.bool false) (.slice none 0 0) := (i.t4.far (by simp) _).far (by simp) _;
          have s1 := ((i.t2.far (by simp) (.bool (decide (za < 0))) (p := ⟨w.heap.size + 2, 0, none⟩)).far (by simp) (.slice A4 (Kn.dig za.natAbs).length c4) (p := ⟨w.heap.size + 2, 1, none⟩)).c0; have s2 := ((((i.t2.far (by simp) (.bool (decide (za < 0))) (p := ⟨w.heap.size + 2, 0, none⟩)).far (by simp) (.slice A4 (Kn.dig za.natAbs).length c4) (p := ⟨w.heap.size + 2, 1, none⟩)).far (by simp) (.bool (decide (zb < 0))) (p := ⟨w.heap.size + 3, 0, none⟩)).far (by simp) (.slice A5 (Kn.dig zb.natAbs).length c5) (p := ⟨w.heap.size + 3, 1, none⟩)).c0; have d30 := T4.c0; have d31 := T4.c1; have f30 := T4.fr 0; have f31 := T4.fr 1))
  all_goals
    have R := Lib.hid (four_set w5 (b := w.heap.size + 2) (b' := w.heap.size + 3) (by omega) (.bool (decide (za < 0))) (.slice A4 (Kn.dig za.natAbs).length c4) (.bool (decide (zb < 0))) (.slice A5 (Kn.dig zb.natAbs).length c5) i.t3.c0 i.t3.c1 i.t4.c0 i.t4.c1)
    clear d20 d21 f20 f21 d30 d31 f30 f31 T4 s1 s2
    go_wp2_with fail
    obtain ⟨r0, r1, r2, r3⟩ := R.out
    refine bodyPost_ret (v := .tuple #[.agg #[.bool (decide (za < 0)), .slice A4 (Kn.dig za.natAbs).length c4], .agg #[.bool (decide (zb < 0)), .slice A5 (Kn.dig zb.natAbs).length c5], .int .i64 0]) (by simp [results, Tryz.results120, go_sem, r0, r1, r2, r3]) rfl ?_
    exact i.fin S4 S5 _ _ _ _
end Go.Proofs.YtkpomjdablopaaaGreatDoor
/- Walks: Divide, for every two integers. -/
namespace Go.Proofs.YtkpomjdablopaaaGreatDoor
open Go.RowKit
set_option linter.unusedVariables false

theorem divide_any (nx : Bool) (A : Option Addr) (ca : Nat) (xs : List Nat) (ny : Bool) (B : Option Addr) (cb : Nat) (ys : List Nat) (w : World) (hx : Sl w w.heap.size A ca xs) (hy : Sl w w.heap.size B cb ys) (hlx : xs.length ≤ 99999) (hly : ys.length ≤ 99999) (h0 : 0 < Kn.val ys) :
    Calls Tryz.prog 120 #[intV nx A xs.length ca, intV ny B ys.length cb] w (IntRes2 ((Kn.iv nx xs).fdiv (Kn.iv ny ys)) ((Kn.iv nx xs).fmod (Kn.iv ny ys)) w) := by
  rcases Decidable.em (nx = ny) with hn | hn
  · exact divide_same nx A ca xs ny B cb ys w hx hy hlx hly h0 hn
  · rcases Nat.eq_zero_or_pos (Kn.val xs % Kn.val ys) with hr | hr
    · exact divide_diff0 nx A ca xs ny B cb ys w hx hy hlx hly h0 hn hr
    · exact divide_diff1 nx A ca xs ny B cb ys w hx hy hlx hly h0 hn hr

set_option maxRecDepth 100000 in
set_option maxHeartbeats 1000000 in
theorem divide_zero (nx : Bool) (A : Option Addr) (ca : Nat) (xs : List Nat) (ny : Bool) (B : Option Addr) (cb : Nat) (ys : List Nat) (w : World) (hy : Sl w w.heap.size B cb ys) (hly : ys.length ≤ 99999) (h0 : Kn.val ys = 0) :
    Calls Tryz.prog 120 #[intV nx A xs.length ca, intV ny B ys.length cb] w fun e w' => e = .returned (.tuple #[intV false none 0 0, intV false none 0 0, .int .i64 1]) ∧ Below w.heap.size w w' := by
  have hd : (Kn.dig (Kn.val ys)).length = 0 := by rw [h0, Kn.dig_zero]; rfl
  have HT := Lib.hid (fun (W : World) (h : Sl W W.heap.size B cb ys) => (by have := trim_any B cb ys W _ h (by omega); rwa [hd] at this : Calls Tryz.prog 65 #[.slice B ys.length cb] W fun e w' => e = .returned (.slice B 0 cb) ∧ W = w'))
  clear hd
  unfold intV
  go_enter Tryz.func120, Tryz.ntmps120
  go_wp2_with fail
  have i := B4.new_ w nx A xs.length ca ny B ys.length cb 24
  revert i
  generalize (((w.alloc (.cells #[.bool nx, .slice A xs.length ca] 24)).alloc (.cells #[.bool ny, .slice B ys.length cb] 24)).alloc (.cells #[.bool false, .slice none 0 0] 24)).alloc (.cells #[.bool false, .slice none 0 0] 24) = wx
  intro i
  have hY := (hy.below i.bel).more i.bel.size
  have y0 := i.t2.c0
  have y1 := i.t2.c1
  have d20 := i.t3.c0
  have d21 := i.t3.c1
  have f20 := i.t3.fr 0
  have f21 := i.t3.fr 1
  have T4 : Two ((wx.setCell ⟨w.heap.size + 2, 0, none⟩ (.bool false)).setCell ⟨w.heap.size + 2, 1, none⟩ (.slice none 0 0)) (w.heap.size + 3) (.bool false) (.slice none 0 0) := (i.t4.far (by simp) _).far (by simp) _
  have d30 := T4.c0
  have d31 := T4.c1
  have f30 := T4.fr 0
  have f31 := T4.fr 1
  have R := Lib.hid (four_set wx (b := w.heap.size + 2) (b' := w.heap.size + 3) (by omega) (.bool false) (.slice none 0 0) (.bool false) (.slice none 0 0) i.t3.c0 i.t3.c1 i.t4.c0 i.t4.c1)
  go_wp2_with fail
  refine (HT.out _ hY).mono ?_
  rintro e w' ⟨rfl, rfl⟩
  go_wp2_with fail
  obtain ⟨r0, r1, r2, r3⟩ := R.out
  refine bodyPost_ret (v := .tuple #[.agg #[.bool false, .slice none 0 0], .agg #[.bool false, .slice none 0 0], .int .i64 1]) (by simp [results, Tryz.results120, go_sem, r0, r1, r2, r3]) rfl ?_
  exact ⟨rfl, (((i.bel.setCell (p := ⟨w.heap.size + 2, 0, none⟩) (by simp) _).setCell (p := ⟨w.heap.size + 2, 1, none⟩) (by simp) _).setCell (p := ⟨w.heap.size + 3, 0, none⟩) (by simp) _).setCell (p := ⟨w.heap.size + 3, 1, none⟩) (by simp) _⟩
end Go.Proofs.YtkpomjdablopaaaGreatDoor
/- Walks: the reference's divWords. -/
namespace Go.Proofs.YtkpomjdablopaaaGreatDoor
open Go.RowKit
set_option linter.unusedVariables false

/-- the world of the reference's long division: both arguments, the rest, the quotient so far -/
structure Rd (w wr : World) (A : Option Addr) (ca : Nat) (a : List Nat) (B : Option Addr) (cb : Nat) (b : List Nat) (C : Option Addr) (cc : Nat) (r : List Nat) (D : Option Addr) (cd : Nat) (q : List Nat) : Prop where
  a : Sl wr wr.heap.size A ca a
  b : Sl wr wr.heap.size B cb b
  r : Sl wr wr.heap.size C cc r
  q : Sl wr wr.heap.size D cd q
  bel : Below w.heap.size w wr
section
variable {w wr wx : World} {A B C D : Option Addr} {ca cb cc cd : Nat} {a b r q : List Nat}
theorem Rd.below (h : Rd w wr A ca a B cb b C cc r D cd q) (hb : Below wr.heap.size wr wx) : Rd w wx A ca a B cb b C cc r D cd q :=
  ⟨h.a.nx hb, h.b.nx hb, h.r.nx hb, h.q.nx hb, h.bel.trans (hb.mono h.bel.size)⟩
theorem Rd.newr (h : Rd w wr A ca a B cb b C cc r D cd q) {C' : Option Addr} {cc' : Nat} {r' : List Nat} (hr : Sl wr wr.heap.size C' cc' r') : Rd w wr A ca a B cb b C' cc' r' D cd q := ⟨h.a, h.b, hr, h.q, h.bel⟩
theorem Rd.newq (h : Rd w wr A ca a B cb b C cc r D cd q) {D' : Option Addr} {cd' : Nat} {q' : List Nat} (hq : Sl wr wr.heap.size D' cd' q') : Rd w wr A ca a B cb b C cc r D' cd' q' := ⟨h.a, h.b, h.r, hq, h.bel⟩
end
theorem Sl.none_nil {w : World} {B c : Nat} {ws : List Nat} (h : Sl w B none c ws) : ws = [] := List.eq_nil_of_length_eq_zero (by have := h.nil0 rfl; have := h.cap; omega)
/-- a row of one word of the call's own -/
theorem own_one (W : World) (x : Nat) : (W.alloc (.cells #[.int .u32 (x : Int)] 88)).ownsRow W.heap.size 88 1 (.slice (some ⟨W.heap.size, 0, none⟩) 1 1) 1 [.int .u32 (x : Int)] :=
  World.ownsRow_lit (e := 88) (size := 1) (base := W.heap.size) W #[.int .u32 (x : Int)] 1 (Nat.le_refl _) (by unfold maxLen; omega) rfl
/-- a word ahead of a list -/
theorem cons_sl {w : World} {base n x : Nat} {v : Value} {l : List Nat} (h : w.ownsRow base 88 1 v (1 + n) ([.int .u32 (x : Int)] ++ u32s l)) (hn : l.length = n) (hw : Kn.Wd l) (hx : x < 4294967296) : ∃ A c, v = .slice A (x :: l).length c ∧ Sl w w.heap.size A c (x :: l) := by
  obtain ⟨A, c, rfl, hc⟩ := own_slice h
  have e : (x :: l).length = 1 + n := by rw [List.length_cons, hn]; omega
  rw [e]
  exact ⟨A, c, rfl, Sl.of_own (l := x :: l) h (Kn.Wd.cons hx hw) hc e⟩
theorem below_name {B : Nat} {a w : World} (h : Below B a w) : ∃ W, W = w := ⟨_, rfl⟩
theorem grown_own {W w' : World} {o : Obj} {g : Nat} (h : (W.alloc o).grownBy w' (some g)) (hg : W.heap.size ≤ g) : Below W.heap.size W w' :=
  (al1 W o).grown h (by simp) (fun k e => by injection e with e; omega)

set_option maxRecDepth 100000 in
set_option maxHeartbeats 4000000 in
theorem rdivWords_any (N M : Nat) (A : Option Addr) (ca : Nat) (B : Option Addr) (cb : Nat) (w : World) (ha : Sl w w.heap.size A ca (Kn.dig N)) (hb : Sl w w.heap.size B cb (Kn.dig M)) (hM : 0 < M) (hla : (Kn.dig N).length ≤ 999999) (hlb : (Kn.dig M).length ≤ 999999) :
    Calls Tryz.prog 67 #[.slice A (Kn.dig N).length ca, .slice B (Kn.dig M).length cb] w (DivRes (N / M) (N % M) w) := by
  obtain ⟨i0, hi, hz0, hz1, hz2⟩ := info_parts infoU32
  have hlp := Kn.dig_len_pos.2 hM
  have hcap := ha.cap
  obtain ⟨n, hn⟩ : ∃ n, Hid (n = (Kn.dig M).length) := ⟨_, Lib.hid rfl⟩
  obtain ⟨l, hl⟩ : ∃ n, Hid (n = (Kn.dig N).length) := ⟨_, Lib.hid rfl⟩
  rw [← hn.out] at hlp hlb ⊢
  rw [← hl.out] at hla hcap ⊢
  obtain ⟨sk, hsk⟩ : ∃ s, Hid (s = min (n - 1) l) := ⟨_, Lib.hid rfl⟩
  obtain ⟨t, ht⟩ : ∃ t, Hid (t = l - sk) := ⟨_, Lib.hid rfl⟩
  have hskl : sk ≤ l := by have := hsk.out; omega
  have htl : t + sk = l := by have := ht.out; omega
  have e1 : ((l : Int) - (sk : Int)) = (t : Int) := by omega
  have HDT : Hid (Kn.val ((Kn.dig N).drop t) < M) := Lib.hid (Kn.top_lt hM (by rw [← hl.out, ← hn.out]; have := hsk.out; omega))
  obtain ⟨R0, hR0⟩ : ∃ R, Hid (R = Kn.val ((Kn.dig N).drop t)) := ⟨_, Lib.hid rfl⟩
  rw [← hR0.out] at HDT
  have HWA : Hid (Kn.Wd (Kn.dig N)) := Lib.hid (Kn.dig_wd N)
  have HTW := Lib.hid (fun (W : World) (d : Nat) (hd : d < 4294967297) (h : Sl W W.heap.size B cb (Kn.dig M)) => (by have := rtimesWord_any B cb (Kn.dig M) d W h (by rw [← hn.out]; omega) hd; rwa [Kn.val_dig, ← hn.out] at this : Calls Tryz.prog 110 #[.slice B n cb, .int .u64 (d : Int)] W (MagRes (M * d) W)))
  go_enter Tryz.func67, Tryz.ntmps67
  go_upto_if 19 with (fail)
  go_cut [6] (fun s6 wx => s6 = .int .i64 (sk : Int) ∧ w = wx)
  case first =>
    by_cases hc : l < n - 1
    · have g1 : decide ((l : Int) < (n : Int) - 1) = true := by simp; omega
      have e9 : sk = l := by have := hsk.out; omega
      have e8 : (l : Int) < (n : Int) - 1 := by omega
      go_wp2_with fail
      go_meet
      exact ⟨by rw [e9], rfl⟩
    · have g1 : decide ((l : Int) < (n : Int) - 1) = false := by simp; omega
      have e8 : ¬ ((l : Int) < (n : Int) - 1) := by omega
      have e9 : (n : Int) - 1 = (sk : Int) := by have := hsk.out; omega
      go_wp2_with fail
      go_meet
      exact ⟨by first | rfl | rw [e9], rfl⟩
  case rest =>
    obtain ⟨rfl, rfl⟩ := hcut
    go_upto_region 4 with (fail)
    go_cut [7] (fun s7 wx => ∃ C cc, s7 = .slice C (Kn.dig R0).length cc ∧ Sl wx wx.heap.size C cc (Kn.dig R0) ∧ Below w.heap.size w wx)
    case first =>
      have hlen : ((Kn.dig N).drop t).length = sk := by rw [List.length_drop, ← hl.out]; omega
      have HTR := Lib.hid (fun (W : World) (X : Option Addr) (cx : Nat) (h : Sl W W.heap.size X cx ((Kn.dig N).drop t)) => (by have := rtrim_any X cx ((Kn.dig N).drop t) W h (by rw [hlen]; omega); rwa [hlen, ← hR0.out] at this : Calls Tryz.prog 66 #[.slice X sk cx] W (MagRes R0 W)))
      have HLN := Lib.hid hlen
      have e7 : (t : Int) ≤ (l : Int) := by omega
      have e6 : l - t = sk := by omega
      clear hlen
      by_cases hca : ca = t
      · have e5 : ca = l := by omega
        have hs0 : Hid ((Kn.dig N).drop t = []) := Lib.hid (List.eq_nil_of_length_eq_zero (by rw [HLN.out]; omega))
        obtain rfl : sk = 0 := by omega
        subst hca
        obtain rfl : l = ca := e5.symm
        clear e5 e6 e7
        go_wp2_with fail
        refine (HTR.out w _ _ (by rw [hs0.out]; exact ⟨Nums.nil _ _ _ _, Kn.Wd.nil, Nat.zero_le _, fun _ => rfl⟩)).mono ?_
        rintro e w' ⟨C, cc, rfl, hC, hb2⟩
        go_wp2_with fail
        go_meet
        exact ⟨C, cc, rfl, hC, hb2⟩
      · cases A with
        | none =>
          exfalso
          have h1 := ha.nil0 rfl
          omega
        | some ad =>
          have hX : Sl w w.heap.size (some (ad.add t)) (ca - t) ((Kn.dig N).drop t) := by
            refine ⟨⟨⟨fun hn => ?_⟩⟩, HWA.out.drop t, by rw [HLN.out]; omega, fun e => by cases e⟩
            rw [List.length_map] at hn
            obtain ⟨b, off, e, hb, hc⟩ := ha.nums.row.cells (by rw [List.length_map]; have := HLN.out; have := hl.out; omega)
            injection e with e
            subst e
            refine ⟨b, off + t, by rw [Go.WideShapes.add_plain], hb, fun k u hu => ?_⟩
            have := hc (t + k) u (by rw [List.map_drop, List.getElem?_drop] at hu; exact hu)
            rwa [← Nat.add_assoc] at this
          go_wp2_with fail
          refine (HTR.out w _ _ hX).mono ?_
          rintro e w' ⟨C, cc, rfl, hC, hb2⟩
          go_wp2_with fail
          go_meet
          exact ⟨C, cc, rfl, hC, hb2⟩
    case rest =>
      obtain ⟨C, cc, rfl, hC, bel⟩ := hcut
      obtain ⟨wx, rfl⟩ := below_name bel
      clear hcap
      have M0 : Rd w (wx.alloc (.cells #[] 88)) A ca (Kn.dig N) B cb (Kn.dig M) C cc (Kn.dig R0) (some ⟨wx.heap.size, 0, none⟩) 0 [] :=
        ⟨(ha.nx bel).nx (al1 _ _), (hb.nx bel).nx (al1 _ _), hC.nx (al1 _ _), ⟨Nums.nil _ _ _ _, Kn.Wd.nil, Nat.zero_le _, fun e => by cases e⟩, bel.trans ((al1 _ _).mono bel.size)⟩
      go_wp2_with fail
      revert M0
      generalize wx.alloc (.cells #[] 88) = w1
      generalize wx.heap.size = gq
      intro M0
      have HI0 : Hid (Kn.val ((Kn.dig N).drop t) = M * Kn.val [] + R0) := Lib.hid (by rw [Kn.val_nil, Nat.mul_zero, Nat.zero_add]; exact hR0.out.symm)
      clear hC bel ha hb hsk ht
      go_loopw [7, 8, 9] (fun rv qv iv wr => ∃ (z : Int) (k R : Nat) (qs : List Nat) (C : Option Addr) (cc : Nat) (D : Option Addr) (cd : Nat), k ≤ t ∧ iv = .int .i64 z ∧ Hid (z = (k : Int) - 1) ∧ -1 ≤ z ∧ z ≤ 1000000 ∧ rv = .slice C (Kn.dig R).length cc ∧ qv = .slice D qs.length cd ∧ qs.length + k = t ∧ Hid (R < M) ∧ Hid (Kn.val ((Kn.dig N).drop k) = M * Kn.val qs + R) ∧ Rd w wr A ca (Kn.dig N) B cb (Kn.dig M) C cc (Kn.dig R) D cd qs) (fun _ _ iv _ => (intOf iv + 1).toNat)
      case atStart => exact ⟨(t : Int) - 1, t, R0, [], C, cc, some ⟨gq, 0, none⟩, 0, Nat.le_refl _, by first | rfl | (congr 1; omega), Lib.hid rfl, by omega, by omega, rfl, rfl, by simp, HDT, HI0, M0⟩
      case round =>
        clear M0 HI0 HDT hR0
        obtain ⟨z, k, R, qs, C, cc, D, cd, hk, rfl, hz, hz3, hz4, rfl, rfl, hqk, HRM, HI, I⟩ := hrel
        by_cases hk0 : z < 0
        · obtain rfl : k = 0 := by have := hz.out; omega
          have HF : Hid (Kn.val qs = N / M ∧ R = N % M) := Lib.hid (by
            have h := HI.out
            rw [List.drop_zero, Kn.val_dig] at h
            constructor
            · rw [h, Nat.mul_add_div hM, Nat.div_eq_of_lt HRM.out]; rfl
            · rw [h, Nat.mul_add_mod, Nat.mod_eq_of_lt HRM.out])
          have HTR := Lib.hid (rtrim_any D cd qs wr I.q (by omega))
          rw [HF.out.1] at HTR
          go_wp2_with fail
          refine HTR.out.mono ?_
          rintro e w' ⟨Q, cq, rfl, hQ, hb2⟩
          replace I := I.below hb2
          go_wp2_with fail
          go_ret2
          exact ⟨Q, cq, C, cc, by rw [← HF.out.2]; rfl, hQ, by rw [← HF.out.2]; exact I.r, I.bel⟩
        · obtain ⟨j, rfl⟩ : ∃ j : Nat, z = (j : Int) := ⟨z.toNat, by omega⟩
          obtain rfl : k = j + 1 := by have := hz.out; omega
          clear hk0 hz3 hz4
          have hjl : j < l := by omega
          obtain ⟨b1, o1, x, rfl, hb1, hc1, hx, hxl⟩ := I.a.word (k := j) (by rw [← hl.out]; omega)
          obtain ⟨T, hT⟩ : ∃ T, Hid (T = x + 4294967296 * R) := ⟨_, Lib.hid rfl⟩
          have hRl : (Kn.dig R).length ≤ 999999 := Nat.le_trans (Kn.dig_len_le (Nat.lt_trans HRM.out Kn.dig_lt)) (by rw [← hn.out]; exact hlb)
          have hown := own_one wr x
          have hlm := Lib.hid (show (u32s (Kn.dig R)).length = (Kn.dig R).length * 1 by rw [u32s_len, Nat.mul_one])
          go_upto_region 9 with (fail)
          go_cut [7] (fun s7 wx => ∃ C cc, s7 = .slice C (Kn.dig T).length cc ∧ Rd w wx (some ⟨b1, o1, none⟩) ca (Kn.dig N) B cb (Kn.dig M) C cc (Kn.dig T) D cd qs)
          case first =>
            have HT2 : Hid (Kn.val (x :: Kn.dig R) = T) := Lib.hid (by rw [Kn.val_cons, Kn.val_dig, hT.out])
            cases C with
            | none =>
              have hr0 : Kn.dig R = [] := I.r.none_nil
              have HR0 := Lib.hid hr0
              rw [hr0] at I ⊢
              have S1 : Sl (wr.alloc (.cells #[.int .u32 (x : Int)] 88)) (wr.alloc (.cells #[.int .u32 (x : Int)] 88)).heap.size (some ⟨wr.heap.size, 0, none⟩) 1 [x] := (Sl.one_new wr x hxl).more (by simp)
              have J := I.below (al1 wr (.cells #[.int .u32 (x : Int)] 88))
              go_wp2_with fail
              refine (rtrim_any (some ⟨wr.heap.size, 0, none⟩) 1 [x] _ S1 (by simp)).mono ?_
              rw [show Kn.val [x] = T by rw [← HT2.out, HR0.out]]
              rintro e w' ⟨C, cc, rfl, hC, hb2⟩
              go_wp2_with fail
              go_meet
              exact ⟨C, cc, rfl, (J.below hb2).newr hC⟩
            | some ad =>
              have S1 := own_one wr x
              have J := I.below (al1 wr (.cells #[.int .u32 (x : Int)] 88))
              obtain ⟨bc, oc, hCe⟩ : ∃ bc oc, ad = ⟨bc, oc, none⟩ ∨ Kn.dig R = [] := by
                rcases Nat.eq_zero_or_pos (Kn.dig R).length with h0 | h0
                · exact ⟨0, 0, Or.inr (List.eq_nil_of_length_eq_zero h0)⟩
                · obtain ⟨b, off, e, _, _⟩ := I.r.nums.row.cells (by rw [List.length_map]; exact h0)
                  injection e with e
                  exact ⟨b, off, Or.inl e⟩
              rcases hCe with rfl | hr0
              · have hnw := Lib.hid (news_of J.r)
                go_wp2_with (at_builtin; refine wpList_append_own _ rfl _ _ 22 rfl wr.heap.size 88 i0 (.int .u32 0) 1 4 Tryz.underlying22 hi hz0 hz1 hz2 rfl (by decide) _ _ _ rfl S1 ⟨bc, oc, none⟩ (Kn.dig R).length cc (u32s (Kn.dig R)) rfl hlm.out ?a2 (u32s_one _) ?a3 ?a4 ?a5 ?_)
                case a2 => exact hnw.out
                case a3 => unfold maxLen; omega
                case a4 => omega
                case a5 => simp
                intro v' w3 hown' hgrow _
                obtain ⟨A3, c3, rfl, hS3⟩ := cons_sl hown' rfl (Kn.dig_wd R) hxl
                have J2 := I.below (grown_own hgrow (Nat.le_refl _))
                clear hown' hgrow S1 hnw
                have hlc : (x :: Kn.dig R).length ≤ 1000000 := by simp; omega
                have HTT := Lib.hid (rtrim_any A3 c3 (x :: Kn.dig R) w3 hS3 (by omega))
                rw [HT2.out] at HTT
                go_wp2_with fail
                refine HTT.out.mono ?_
                rintro e w' ⟨C, cc, rfl, hC, hb2⟩
                go_wp2_with fail
                go_meet
                exact ⟨C, cc, rfl, (J2.below hb2).newr hC⟩
              · have HR0 := Lib.hid hr0
                rw [hr0] at I ⊢
                have S2 : Sl (wr.alloc (.cells #[.int .u32 (x : Int)] 88)) (wr.alloc (.cells #[.int .u32 (x : Int)] 88)).heap.size (some ⟨wr.heap.size, 0, none⟩) 1 [x] := (Sl.one_new wr x hxl).more (by simp)
                have J := I.below (al1 wr (.cells #[.int .u32 (x : Int)] 88))
                clear S1
                go_wp2_with fail
                refine (rtrim_any (some ⟨wr.heap.size, 0, none⟩) 1 [x] _ S2 (by simp)).mono ?_
                rw [show Kn.val [x] = T by rw [← HT2.out, HR0.out]]
                rintro e w' ⟨C, cc, rfl, hC, hb2⟩
                go_wp2_with fail
                go_meet
                exact ⟨C, cc, rfl, (J.below hb2).newr hC⟩
          case rest =>
            clear I
            obtain ⟨C, cc, rfl, I⟩ := hcut
            obtain ⟨wx, rfl⟩ := below_name I.bel
            have HTM : Hid (T < M * 4294967296) := Lib.hid (by
              rw [hT.out]
              have h1 : (R + 1) * 4294967296 ≤ M * 4294967296 := Nat.mul_le_mul_right _ HRM.out
              omega)
            clear hown hlm
            go_wp2_with fail
            go_loopw [10, 11] (fun lv hv wi => ∃ lo hi, lv = .int .u64 (lo : Nat) ∧ hv = .int .u64 (hi : Nat) ∧ lo < hi ∧ hi ≤ 4294967296 ∧ Hid (M * lo ≤ T ∧ T < M * hi) ∧ Rd w wi (some ⟨b1, o1, none⟩) ca (Kn.dig N) B cb (Kn.dig M) C cc (Kn.dig T) D cd qs) (fun lv hv _ => (intOf hv - intOf lv).toNat)
            case atStart => exact ⟨0, 4294967296, rfl, rfl, by omega, by omega, Lib.hid ⟨by omega, HTM.out⟩, I⟩
            case round =>
              clear I
              obtain ⟨lo, hi', rfl, rfl, hlh, hhb, HL, I⟩ := hrel
              have hTl : (Kn.dig T).length ≤ 1000000 := by
                refine Kn.dig_len_le (Nat.lt_of_lt_of_le (Nat.lt_of_lt_of_le HTM.out ?_) (Kn.pw_mono (show n + 1 ≤ 1000000 by omega)))
                rw [Kn.pw_succ, Nat.mul_comm]
                exact Nat.mul_le_mul_left _ (by rw [hn.out]; exact Nat.le_of_lt Kn.dig_lt)
              by_cases hgo : lo + 1 < hi'
              · have gd : decide ((1 : Int) < (hi' : Int) - (lo : Int)) = true := by simp; omega
                obtain ⟨mid, hmid⟩ : ∃ m, m = (lo + hi') / 2 := ⟨_, rfl⟩
                have em : ((lo : Int) + (hi' : Int)) / 2 = (mid : Int) := by omega
                have hm1 : lo < mid := by omega
                have hm2 : mid < hi' := by omega
                obtain ⟨P, hP⟩ : ∃ P, Hid (P = M * mid) := ⟨_, Lib.hid rfl⟩
                have hPl : (Kn.dig P).length ≤ 1000000 := by
                  refine Kn.dig_len_le (Nat.lt_of_lt_of_le (m := M * 4294967296) (by rw [hP.out]; exact Nat.mul_lt_mul_of_pos_left (by omega) hM) ?_)
                  refine Nat.le_trans ?_ (Kn.pw_mono (show n + 1 ≤ 1000000 by omega))
                  rw [Kn.pw_succ, Nat.mul_comm]
                  exact Nat.mul_le_mul_left _ (by rw [hn.out]; exact Nat.le_of_lt Kn.dig_lt)
                have HMD := Lib.hid hmid
                have HTM2 := Lib.hid (fun (W : World) (h : Sl W W.heap.size B cb (Kn.dig M)) => (by have := HTW.out W mid (by omega) h; rwa [← hP.out] at this : Calls Tryz.prog 110 #[.slice B n cb, .int .u64 (mid : Int)] W (MagRes P W)))
                have hlo3 : (lo : Int) + (hi' : Int) < 18446744073709551616 := by omega
                clear hmid hgo
                go_wp2_with fail
                refine (HTM2.out _ I.b).mono ?_
                rintro e w2 ⟨A2, c2, rfl, hS2, hb2⟩
                replace I := I.below hb2
                obtain ⟨cm, hcm⟩ : ∃ cm, Hid (cm = Kn.cmp P T) := ⟨_, Lib.hid rfl⟩
                clear hb2
                by_cases hPT : P ≤ T
                · have gc : decide (cm ≤ 0) = true := by
                    rw [hcm.out]
                    rcases Nat.lt_or_ge P T with h | h
                    · rw [Kn.cmp_lt h]; rfl
                    · rw [show P = T by omega, Kn.cmp_self]; rfl
                  have HL2 : Hid (M * mid ≤ T ∧ T < M * hi') := Lib.hid ⟨by rw [← hP.out]; exact hPT, HL.out.2⟩
                  go_wp2_with fail
                  refine (rcompareWords_any A2 c2 P C cc T w2 _ hS2 I.r (by omega) (by omega)).mono ?_
                  rintro e w3 ⟨rfl, q, rfl⟩
                  replace I := I.below (bDrew (Below.refl _ w2) q)
                  rw [← hcm.out]
                  go_wp2_with fail
                  go_roundw
                  case rel => exact ⟨mid, hi', rfl, rfl, hm2, hhb, HL2, I⟩
                  case measure => first | (simp [intOf]; done) | (simp [intOf]; omega)
                · have gc : decide (cm ≤ 0) = false := by rw [hcm.out, Kn.cmp_gt (by omega)]; rfl
                  have HL2 : Hid (M * lo ≤ T ∧ T < M * mid) := Lib.hid ⟨HL.out.1, by rw [← hP.out]; omega⟩
                  clear hPT
                  go_wp2_with fail
                  refine (rcompareWords_any A2 c2 P C cc T w2 _ hS2 I.r (by omega) (by omega)).mono ?_
                  rintro e w3 ⟨rfl, q, rfl⟩
                  replace I := I.below (bDrew (Below.refl _ w2) q)
                  rw [← hcm.out]
                  go_wp2_with fail
                  go_roundw
                  case rel => exact ⟨lo, mid, rfl, rfl, hm1, by omega, HL2, I⟩
                  case measure => first | (simp [intOf]; done) | (simp [intOf]; omega)
              · obtain rfl : hi' = lo + 1 := by omega
                have gd : decide ((1 : Int) < ((lo : Int) + 1) - (lo : Int)) = false := by simp; omega
                have gd2 : ((lo : Int) + 1) - (lo : Int) = 1 := by omega
                have HQ := Lib.hid (Kn.half_end HL.out.1 HL.out.2)
                obtain ⟨P, hP⟩ : ∃ P, Hid (P = M * lo) := ⟨_, Lib.hid rfl⟩
                obtain ⟨R2, hR2⟩ : ∃ X, Hid (X = T - P) := ⟨_, Lib.hid rfl⟩
                have hPT : P ≤ T := by rw [hP.out]; exact HL.out.1
                have hPTl : (Kn.dig P).length ≤ (Kn.dig T).length := Kn.dig_len_le (Nat.lt_of_le_of_lt hPT Kn.dig_lt)
                have HTM2 := Lib.hid (fun (W : World) (h : Sl W W.heap.size B cb (Kn.dig M)) => (by have := HTW.out W lo (by omega) h; rwa [← hP.out] at this : Calls Tryz.prog 110 #[.slice B n cb, .int .u64 (lo : Int)] W (MagRes P W)))
                have HSW := Lib.hid (fun (W : World) (X : Option Addr) (cx : Nat) (h : Sl W W.heap.size C cc (Kn.dig T)) (h2 : Sl W W.heap.size X cx (Kn.dig P)) => (by have := rsubWords_any C cc (Kn.dig T) X cx (Kn.dig P) W h h2 (by omega) hPTl (Lib.hid (by rw [Kn.val_dig, Kn.val_dig]; exact hPT)); rwa [Kn.val_dig, Kn.val_dig, ← hR2.out] at this : Calls Tryz.prog 111 #[.slice C (Kn.dig T).length cc, .slice X (Kn.dig P).length cx] W (MagRes R2 W)))
                have HRM2 : Hid (R2 < M) := Lib.hid (by rw [hR2.out, hP.out, HQ.out.2]; exact Nat.mod_lt _ hM)
                have HI2 : Hid (Kn.val ((Kn.dig N).drop j) = M * Kn.val (lo :: qs) + R2) := Lib.hid (by
                  rw [Kn.val_drop_step (Kn.dig N) (by rw [← hl.out]; exact hjl), ← hx.out, HI.out, Kn.val_cons, Nat.mul_add M, Nat.mul_left_comm M]
                  have h1 := hT.out
                  have h2 := hR2.out
                  have h3 := hP.out
                  omega)
                have hlw : lo < 4294967296 := by omega
                have ew : (lo : Int) % 4294967296 = (lo : Int) := by omega
                clear hPTl
                go_wp2_with fail
                refine (HTM2.out _ I.b).mono ?_
                rintro e w2 ⟨A2, c2, rfl, hS2, hb2⟩
                replace I := I.below hb2
                clear hb2
                go_wp2_with fail
                refine (HSW.out _ _ _ I.r hS2).mono ?_
                rintro e w3 ⟨A3, c3, rfl, hS3, hb3⟩
                replace I := (I.below hb3).newr hS3
                clear hb3
                have hqlm := Lib.hid (show (u32s qs).length = qs.length * 1 by rw [u32s_len, Nat.mul_one])
                have hqw := I.q.wd
                have S1 := own_one w3 lo
                have J := I.below (al1 w3 (.cells #[.int .u32 (lo : Int)] 88))
                clear hT HI hR2 HTM HL hS2 hS3
                cases D with
                | none =>
                  have hq0 : qs = [] := I.q.none_nil
                  subst hq0
                  have S2 : Sl (w3.alloc (.cells #[.int .u32 (lo : Int)] 88)) (w3.alloc (.cells #[.int .u32 (lo : Int)] 88)).heap.size (some ⟨w3.heap.size, 0, none⟩) 1 [lo] := (Sl.one_new w3 lo hlw).more (by simp)
                  have J2 := J.newq S2
                  have hj1 : 1 + j = t := by simp at hqk; omega
                  clear S1 J
                  go_wp2_with fail
                  go_roundw
                  case rel => exact ⟨(j : Int) - 1, j, R2, [lo], A3, c3, some ⟨w3.heap.size, 0, none⟩, 1, by omega, by go_num, Lib.hid rfl, by omega, by omega, rfl, rfl, by simpa using hj1, HRM2, HI2, J2⟩
                  case measure => first | (simp [intOf]; done) | (simp [intOf]; omega)
                | some ad =>
                  obtain ⟨bc, oc, hCe⟩ : ∃ bc oc, ad = ⟨bc, oc, none⟩ ∨ qs = [] := by
                    rcases Nat.eq_zero_or_pos qs.length with h0 | h0
                    · exact ⟨0, 0, Or.inr (List.eq_nil_of_length_eq_zero h0)⟩
                    · obtain ⟨b, off, e, _, _⟩ := I.q.nums.row.cells (by rw [List.length_map]; exact h0)
                      injection e with e
                      exact ⟨b, off, Or.inl e⟩
                  rcases hCe with rfl | hq0
                  · have hnw := Lib.hid (news_of J.q)
                    go_wp2_with (at_builtin; refine wpList_append_own _ rfl _ _ 22 rfl w3.heap.size 88 i0 (.int .u32 0) 1 4 Tryz.underlying22 hi hz0 hz1 hz2 rfl (by decide) _ _ _ rfl S1 ⟨bc, oc, none⟩ qs.length cd (u32s qs) rfl hqlm.out ?b2 (u32s_one _) ?b3 ?b4 ?b5 ?_)
                    case b2 => exact hnw.out
                    case b3 => unfold maxLen; omega
                    case b4 => omega
                    case b5 => simp
                    intro v' w4 hown' hgrow _
                    obtain ⟨A4, c4, rfl, hS4⟩ := cons_sl hown' rfl hqw hlw
                    have J2 := (I.below (grown_own hgrow (Nat.le_refl _))).newq hS4
                    clear hown' hgrow S1 hnw J
                    go_wp2_with fail
                    go_roundw
                    case rel => exact ⟨(j : Int) - 1, j, R2, lo :: qs, A3, c3, A4, c4, by omega, by go_num, Lib.hid rfl, by omega, by omega, rfl, rfl, by rw [List.length_cons]; omega, HRM2, HI2, J2⟩
                    case measure => first | (simp [intOf]; done) | (simp [intOf]; omega)
                  · subst hq0
                    have S2 : Sl (w3.alloc (.cells #[.int .u32 (lo : Int)] 88)) (w3.alloc (.cells #[.int .u32 (lo : Int)] 88)).heap.size (some ⟨w3.heap.size, 0, none⟩) 1 [lo] := (Sl.one_new w3 lo hlw).more (by simp)
                    have J2 := J.newq S2
                    have hj1 : 1 + j = t := by simp at hqk; omega
                    clear S1 J
                    go_wp2_with fail
                    go_roundw
                    case rel => exact ⟨(j : Int) - 1, j, R2, [lo], A3, c3, some ⟨w3.heap.size, 0, none⟩, 1, by omega, by go_num, Lib.hid rfl, by omega, by omega, rfl, rfl, by simpa using hj1, HRM2, HI2, J2⟩
                    case measure => first | (simp [intOf]; done) | (simp [intOf]; omega)
end Go.Proofs.YtkpomjdablopaaaGreatDoor
/- Walks: split, join, Of, Small; the reference's Of, Small. -/
namespace Go.Proofs.YtkpomjdablopaaaGreatDoor
open Go.RowKit
set_option linter.unusedVariables false

theorem two_words {lo hi : Nat} {w : World} (hl : lo < 4294967296) (hh : hi < 4294967296) : Sl (w.alloc (.cells #[.int .u32 (lo : Int), .int .u32 (hi : Int)] 88)) (w.alloc (.cells #[.int .u32 (lo : Int), .int .u32 (hi : Int)] 88)).heap.size (some ⟨w.heap.size, 0, none⟩) 2 [lo, hi] :=
  ⟨(Blk.new_ .u32 88 w [lo, hi]).nums (by simp), Kn.Wd.cons hl (Kn.Wd.cons hh Kn.Wd.nil), by simp, fun e => by cases e⟩
theorem val_two (lo hi : Nat) : Kn.val [lo, hi] = lo + 4294967296 * hi := by simp [Kn.val]

set_option maxHeartbeats 400000 in
theorem split_any (n : Nat) (hn : Hid (n < 18446744073709551616)) (w : World) : Calls Tryz.prog 83 #[.int .u64 (n : Int)] w (MagRes n w) := by
  obtain ⟨lo, hlo⟩ : ∃ lo, lo = n % 4294967296 := ⟨_, rfl⟩
  obtain ⟨hi, hhi⟩ : ∃ hi, hi = n / 4294967296 := ⟨_, rfl⟩
  have l1 : lo < 4294967296 := by omega
  have l2 : hi < 4294967296 := by have := hn.out; omega
  have e1 : (n : Int) % 4294967296 = (lo : Int) := by omega
  have e2 : (n : Int) / 4294967296 = (hi : Int) := by omega
  have e3 : (hi : Int) % 4294967296 = (hi : Int) := by omega
  have HV : Hid (Kn.val [lo, hi] = n) := Lib.hid (by rw [val_two]; omega)
  have HT : Hid (∀ (W : World) (A : Option Addr), Sl W W.heap.size A 2 [lo, hi] → Calls Tryz.prog 65 #[.slice A 2 2] W fun e w' => e = .returned (.slice A (Kn.dig n).length 2) ∧ W = w') := Lib.hid (fun W A h => by
    have := trim_any A 2 [lo, hi] W _ h (by simp)
    rwa [HV.out] at this)
  have hS := two_words (w := w) l1 l2
  have H1 := Lib.hid hlo
  have H2 := Lib.hid hhi
  clear hlo hhi
  go_enter Tryz.func83, Tryz.ntmps83
  go_wp2_with fail
  refine (HT.out _ _ hS).mono ?_
  rintro e w' ⟨rfl, rfl⟩
  go_wp2_with fail
  go_ret
  refine ⟨_, _, rfl, ?_, al1 _ _⟩
  have := hS.trim
  rw [HV.out] at this
  exact this

set_option maxRecDepth 100000 in
set_option maxHeartbeats 1000000 in
theorem of_any (n : Int) (h0 : Hid (-9223372036854775808 ≤ n)) (h1 : Hid (n ≤ 9223372036854775807)) (w : World) : Calls Tryz.prog 45 #[.int .i64 n] w (IntRes n w) := by
  obtain ⟨m, hm⟩ : ∃ m : Nat, Hid (m = n.natAbs) := ⟨_, Lib.hid rfl⟩
  have hml : Hid (m < 18446744073709551616) := Lib.hid (by rw [hm.out]; have := h0.out; have := h1.out; omega)
  have hdl : (Kn.dig m).length ≤ 2 := Kn.dig_len_le (by have := hml.out; show m < 4294967296 ^ 2; omega)
  have HG : Hid (∀ (W : World) (A : Option Addr) (c : Nat), Sl W W.heap.size A c (Kn.dig m) → Calls Tryz.prog 63 #[.bool (decide (n < 0)), .slice A (Kn.dig m).length c] W (IntRes n W)) := Lib.hid (fun W A c h => by
    have := signed_any (decide (n < 0)) A c (Kn.dig m) W h (by omega)
    rwa [hm.out, Kn.iv_dig, ← hm.out] at this)
  by_cases hneg : n < 0
  · have e1 : IntKind.u64.wrap (-(IntKind.u64.wrap n)) = (m : Int) := by rw [IntKind.wrap_u64, IntKind.wrap_u64, hm.out]; have := h0.out; omega
    rw [decide_eq_true hneg] at HG
    go_enter Tryz.func45, Tryz.ntmps45
    go_wp2_with fail
    refine (split_any m hml _).mono ?_
    rintro e w2 ⟨A2, c2, rfl, hS, hb⟩
    have t : Two w2 w.heap.size (.bool false) (.slice none 0 0) := (Two.new_ _ _ _ _).below hb (by simp)
    have hB : Below w.heap.size w w2 := ((Below.refl _ _).alloc (Nat.le_refl _) _).trans (hb.mono (by simp))
    go_wp2_with fail
    refine (HG.out _ _ _ hS).mono ?_
    rintro e w3 ⟨A3, c3, rfl, hS3, hb3⟩
    replace t := t.below hb3 t.lt
    replace hB := hB.trans (hb3.mono hB.size)
    have d20 := t.c0
    have d21 := t.c1
    have f20 := t.fr 0
    have f21 := t.fr 1
    have R := Lib.hid (two_set w3 (.bool (decide (n < 0))) (.slice A3 (Kn.dig n.natAbs).length c3) d20 d21)
    have HF : Hid (IntRes n w (.returned (.agg #[.bool (decide (n < 0)), .slice A3 (Kn.dig n.natAbs).length c3])) ((w3.setCell ⟨w.heap.size, 0, none⟩ (.bool (decide (n < 0)))).setCell ⟨w.heap.size, 1, none⟩ (.slice A3 (Kn.dig n.natAbs).length c3))) := Lib.hid
      ⟨A3, c3, rfl, (hS3.put t _ _).more (by simp [World.setCell]), (hB.setCell (p := ⟨w.heap.size, 0, none⟩) (Nat.le_refl _) _).setCell (p := ⟨w.heap.size, 1, none⟩) (Nat.le_refl _) _⟩
    rw [decide_eq_true hneg] at R HF ⊢
    have HN := Lib.hid hneg
    clear hneg
    go_wp2_with fail
    obtain ⟨r0, r1⟩ := R.out
    refine bodyPost_ret (v := .agg #[.bool true, .slice A3 (Kn.dig n.natAbs).length c3]) (by simp [results, Tryz.results45, go_sem, r0, r1]) rfl ?_
    exact HF.out
  · have e1 : IntKind.u64.wrap n = (m : Int) := by rw [IntKind.wrap_u64, hm.out]; have := h1.out; omega
    rw [decide_eq_false hneg] at HG
    go_enter Tryz.func45, Tryz.ntmps45
    go_wp2_with fail
    refine (split_any m hml _).mono ?_
    rintro e w2 ⟨A2, c2, rfl, hS, hb⟩
    have t : Two w2 w.heap.size (.bool false) (.slice none 0 0) := (Two.new_ _ _ _ _).below hb (by simp)
    have hB : Below w.heap.size w w2 := ((Below.refl _ _).alloc (Nat.le_refl _) _).trans (hb.mono (by simp))
    go_wp2_with fail
    refine (HG.out _ _ _ hS).mono ?_
    rintro e w3 ⟨A3, c3, rfl, hS3, hb3⟩
    replace t := t.below hb3 t.lt
    replace hB := hB.trans (hb3.mono hB.size)
    have d20 := t.c0
    have d21 := t.c1
    have f20 := t.fr 0
    have f21 := t.fr 1
    have R := Lib.hid (two_set w3 (.bool (decide (n < 0))) (.slice A3 (Kn.dig n.natAbs).length c3) d20 d21)
    have HF : Hid (IntRes n w (.returned (.agg #[.bool (decide (n < 0)), .slice A3 (Kn.dig n.natAbs).length c3])) ((w3.setCell ⟨w.heap.size, 0, none⟩ (.bool (decide (n < 0)))).setCell ⟨w.heap.size, 1, none⟩ (.slice A3 (Kn.dig n.natAbs).length c3))) := Lib.hid
      ⟨A3, c3, rfl, (hS3.put t _ _).more (by simp [World.setCell]), (hB.setCell (p := ⟨w.heap.size, 0, none⟩) (Nat.le_refl _) _).setCell (p := ⟨w.heap.size, 1, none⟩) (Nat.le_refl _) _⟩
    rw [decide_eq_false (show ¬ n < 0 by omega)] at R HF ⊢
    have HN := Lib.hid hneg
    clear hneg
    go_wp2_with fail
    obtain ⟨r0, r1⟩ := R.out
    refine bodyPost_ret (v := .agg #[.bool false, .slice A3 (Kn.dig n.natAbs).length c3]) (by simp [results, Tryz.results45, go_sem, r0, r1]) rfl ?_
    exact HF.out

set_option maxRecDepth 100000 in
set_option maxHeartbeats 1000000 in
theorem rof_any (n : Int) (h0 : Hid (-9223372036854775808 ≤ n)) (h1 : Hid (n ≤ 9223372036854775807)) (w : World) : Calls Tryz.prog 69 #[.int .i64 n] w (IntRes n w) := by
  obtain ⟨m, hm⟩ : ∃ m : Nat, Hid (m = n.natAbs) := ⟨_, Lib.hid rfl⟩
  have hml : Hid (m < 18446744073709551616) := Lib.hid (by rw [hm.out]; have := h0.out; have := h1.out; omega)
  obtain ⟨lo, hlo⟩ : ∃ lo, lo = m % 4294967296 := ⟨_, rfl⟩
  obtain ⟨hi, hhi⟩ : ∃ hi, hi = m / 4294967296 := ⟨_, rfl⟩
  have l1 : lo < 4294967296 := by omega
  have l2 : hi < 4294967296 := by have := hml.out; omega
  have e1 : (m : Int) % 4294967296 = (lo : Int) := by omega
  have e2 : (m : Int) / 4294967296 = (hi : Int) := by omega
  have e3 : (hi : Int) % 4294967296 = (hi : Int) := by omega
  have HV : Hid (Kn.val [lo, hi] = m) := Lib.hid (by rw [val_two]; omega)
  have hziv : Hid (Kn.iv (decide (n < 0)) [lo, hi] = n) := Lib.hid (by
    unfold Kn.iv; rw [HV.out, hm.out]; by_cases h : n < 0 <;> simp [h] <;> omega)
  have HG : Hid (∀ (W : World) (A : Option Addr), Sl W W.heap.size A 2 [lo, hi] → Calls Tryz.prog 76 #[.bool (decide (n < 0)), .slice A 2 2] W (IntRes n W)) := Lib.hid (fun W A h => by
    have := made_any (decide (n < 0)) A 2 [lo, hi] W h (by simp)
    rwa [hziv.out] at this)
  have H1 := Lib.hid hlo
  have H2 := Lib.hid hhi
  clear hlo hhi
  by_cases hneg : n < 0
  · have hng : True := trivial
    have e4 : IntKind.u64.wrap (IntKind.u64.wrap (wrap64 (-wrap64 (n + 1))) + 1) = (m : Int) := by rw [IntKind.wrap_u64, IntKind.wrap_u64, hm.out]; unfold wrap64; have := h0.out; omega
    rw [decide_eq_true hneg] at HG
    go_enter Tryz.func69, Tryz.ntmps69
    go_wp2_with fail
    have t : Two (w.alloc (.cells #[.bool false, .slice none 0 0] 24)) w.heap.size (.bool false) (.slice none 0 0) := Two.new_ _ _ _ _
    have hB := al1 w (.cells #[.bool false, .slice none 0 0] 24)
    have hS := two_words (w := w.alloc (.cells #[.bool false, .slice none 0 0] 24)) l1 l2
    have ez : (w.alloc (.cells #[.bool false, .slice none 0 0] 24)).heap.size = w.heap.size + 1 := by simp
    rw [ez] at hS
    replace t := t.alloc (.cells #[.int .u32 (lo : Int), .int .u32 (hi : Int)] 88)
    replace hB := hB.alloc hB.size (.cells #[.int .u32 (lo : Int), .int .u32 (hi : Int)] 88)
    refine (HG.out _ _ hS).mono ?_
    rintro e w3 ⟨A3, c3, rfl, hS3, hb3⟩
    replace t := t.below hb3 t.lt
    replace hB := hB.trans (hb3.mono hB.size)
    clear hS ez hb3
    have d20 := t.c0
    have d21 := t.c1
    have f20 := t.fr 0
    have f21 := t.fr 1
    have R := Lib.hid (two_set w3 (.bool (decide (n < 0))) (.slice A3 (Kn.dig n.natAbs).length c3) d20 d21)
    have HF : Hid (IntRes n w (.returned (.agg #[.bool (decide (n < 0)), .slice A3 (Kn.dig n.natAbs).length c3])) ((w3.setCell ⟨w.heap.size, 0, none⟩ (.bool (decide (n < 0)))).setCell ⟨w.heap.size, 1, none⟩ (.slice A3 (Kn.dig n.natAbs).length c3))) := Lib.hid
      ⟨A3, c3, rfl, (hS3.put t _ _).more (by simp [World.setCell]), (hB.setCell (p := ⟨w.heap.size, 0, none⟩) (Nat.le_refl _) _).setCell (p := ⟨w.heap.size, 1, none⟩) (Nat.le_refl _) _⟩
    rw [decide_eq_true hneg] at R HF ⊢
    have HN := Lib.hid hneg
    clear hneg
    go_wp2_with fail
    obtain ⟨r0, r1⟩ := R.out
    refine bodyPost_ret (v := .agg #[.bool true, .slice A3 (Kn.dig n.natAbs).length c3]) (by simp [results, Tryz.results69, go_sem, r0, r1]) rfl ?_
    exact HF.out
  · have hng : True := trivial
    have e4 : IntKind.u64.wrap n = (m : Int) := by rw [IntKind.wrap_u64, hm.out]; have := h1.out; omega
    rw [decide_eq_false (show ¬ n < 0 by omega)] at HG
    go_enter Tryz.func69, Tryz.ntmps69
    go_wp2_with fail
    have t : Two (w.alloc (.cells #[.bool false, .slice none 0 0] 24)) w.heap.size (.bool false) (.slice none 0 0) := Two.new_ _ _ _ _
    have hB := al1 w (.cells #[.bool false, .slice none 0 0] 24)
    have hS := two_words (w := w.alloc (.cells #[.bool false, .slice none 0 0] 24)) l1 l2
    have ez : (w.alloc (.cells #[.bool false, .slice none 0 0] 24)).heap.size = w.heap.size + 1 := by simp
    rw [ez] at hS
    replace t := t.alloc (.cells #[.int .u32 (lo : Int), .int .u32 (hi : Int)] 88)
    replace hB := hB.alloc hB.size (.cells #[.int .u32 (lo : Int), .int .u32 (hi : Int)] 88)
    refine (HG.out _ _ hS).mono ?_
    rintro e w3 ⟨A3, c3, rfl, hS3, hb3⟩
    replace t := t.below hb3 t.lt
    replace hB := hB.trans (hb3.mono hB.size)
    clear hS ez hb3
    have d20 := t.c0
    have d21 := t.c1
    have f20 := t.fr 0
    have f21 := t.fr 1
    have R := Lib.hid (two_set w3 (.bool (decide (n < 0))) (.slice A3 (Kn.dig n.natAbs).length c3) d20 d21)
    have HF : Hid (IntRes n w (.returned (.agg #[.bool (decide (n < 0)), .slice A3 (Kn.dig n.natAbs).length c3])) ((w3.setCell ⟨w.heap.size, 0, none⟩ (.bool (decide (n < 0)))).setCell ⟨w.heap.size, 1, none⟩ (.slice A3 (Kn.dig n.natAbs).length c3))) := Lib.hid
      ⟨A3, c3, rfl, (hS3.put t _ _).more (by simp [World.setCell]), (hB.setCell (p := ⟨w.heap.size, 0, none⟩) (Nat.le_refl _) _).setCell (p := ⟨w.heap.size, 1, none⟩) (Nat.le_refl _) _⟩
    rw [decide_eq_false (show ¬ n < 0 by omega)] at R HF ⊢
    have HN := Lib.hid hneg
    clear hneg
    go_wp2_with fail
    obtain ⟨r0, r1⟩ := R.out
    refine bodyPost_ret (v := .agg #[.bool false, .slice A3 (Kn.dig n.natAbs).length c3]) (by simp [results, Tryz.results69, go_sem, r0, r1]) rfl ?_
    exact HF.out

set_option maxRecDepth 100000 in
set_option maxHeartbeats 1000000 in
theorem join_any (A : Option Addr) (c : Nat) (ws : List Nat) (w : World) (B : Nat) (h : Sl w B A c ws) (hl : ws.length ≤ 2) :
    Calls Tryz.prog 87 #[.slice A ws.length c] w fun e w' => e = .returned (.int .u64 (Kn.val ws : Nat)) ∧ w = w' := by
  obtain ⟨V, hV⟩ : ∃ V, Hid (V = Kn.val ws) := ⟨_, Lib.hid rfl⟩
  rw [← hV.out]
  go_enter Tryz.func87, Tryz.ntmps87
  go_wp2_with fail
  go_loop [3, 8] (fun nv iv => ∃ k n : Nat, k ≤ ws.length ∧ iv = .int .i64 (k : Nat) ∧ nv = .int .u64 (n : Nat) ∧ Hid (n = Kn.val (ws.take k))) (fun _ iv => ws.length - (intOf iv).toNat)
  case atStart => exact ⟨0, 0, Nat.zero_le _, rfl, rfl, Lib.hid (by simp [Kn.val])⟩
  case round =>
    obtain ⟨k, n, hk, rfl, rfl, HN⟩ := hrel
    by_cases hlt : k < ws.length
    · obtain ⟨b, off, x, rfl, hb, hc, hx, hxl⟩ := h.word hlt
      have hs := Kn.val_take_step ws k
      rw [← hx.out, ← HN.out] at hs
      have hnl : Hid (n < Kn.pw k) := Lib.hid (by rw [HN.out]; exact Kn.val_take_lt h.wd k)
      rcases (show k = 0 ∨ k = 1 by omega) with hk0 | hk1
      · subst hk0
        rw [Nat.add_zero] at hc
        have n0 : n = 0 := by have := hnl.out; rw [Kn.pw_zero] at this; omega
        subst n0
        have HN2 : Hid (x = Kn.val (ws.take (0 + 1))) := Lib.hid (by rw [hs, Kn.pw_zero]; omega)
        clear hs
        have EO : bits BinOp.or IntKind.u64 0 (x : Int) = (x : Int) := by have := or_any 0 x (by decide) (by omega); rw [Nat.zero_or] at this; exact this
        go_wp2_with fail
        go_round
        case rel => exact ⟨1, x, by omega, rfl, rfl, HN2⟩
        case measure => simp [intOf]; omega
      · subst hk1
        obtain ⟨y, hy⟩ : ∃ y : Nat, Hid (y = n + x * 4294967296) := ⟨_, Lib.hid rfl⟩
        have HN2 : Hid (y = Kn.val (ws.take (1 + 1))) := Lib.hid (by rw [hs, hy.out, show Kn.pw 1 = 4294967296 from rfl]; omega)
        have EO : Hid (bits BinOp.or IntKind.u64 (n : Int) ((x : Int) * 4294967296) = (y : Int)) := Lib.hid (by
          have hn := hnl.out
          rw [show Kn.pw 1 = 4294967296 from rfl] at hn
          have := or_any n (x * 4294967296) (by omega) (by omega)
          rw [Int.natCast_mul] at this
          rw [show ((4294967296 : Nat) : Int) = 4294967296 from rfl] at this
          rw [this, hy.out]
          congr 1
          have h2 := Nat.shiftLeft_add_eq_or_of_lt (i := 32) (show n < 2 ^ 32 by omega) x
          rw [Nat.shiftLeft_eq] at h2
          rw [Nat.or_comm, ← h2]; omega)
        have hw : IntKind.u64.wrap ((x : Int) * 4294967296) = (x : Int) * 4294967296 := by rw [IntKind.wrap_u64]; omega
        clear hs
        go_wp2_with fail
        rw [EO.out]
        go_round
        case rel => exact ⟨2, y, by omega, rfl, rfl, HN2⟩
        case measure => simp [intOf]; omega
    · have HF : Hid (n = V) := Lib.hid (by rw [hV.out, HN.out, List.take_of_length_le (by omega)])
      go_wp2_with fail
      go_ret
      exact ⟨ret_int (by rw [HF.out]), rfl⟩
end Go.Proofs.YtkpomjdablopaaaGreatDoor
