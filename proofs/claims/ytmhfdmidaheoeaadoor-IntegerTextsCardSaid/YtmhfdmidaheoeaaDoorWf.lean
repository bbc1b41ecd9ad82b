/- Walks: the reference's Sub, Compare. -/
import Derived.Test.YtmhfdmidaheoeaaDoorWe
namespace Go.Proofs.YtmhfdmidaheoeaaDoor
open Go.RowKit
set_option linter.unusedVariables false

theorem dig_abs_len {z : Int} {k : Nat} (h : z.natAbs < Kn.pw k) : (Kn.dig z.natAbs).length ≤ k := Kn.dig_len_le h
theorem iv_abs_lt (s : Bool) {ws : List Nat} (h : Kn.Wd ws) : (Kn.iv s ws).natAbs < Kn.pw ws.length := by rw [Kn.iv_natAbs]; exact Kn.val_lt h
theorem cmpI_sub (a b : Int) : cmpI a b = (a - b).sign := by
  rcases sgn (a - b) with ⟨h1, h2⟩ | ⟨h1, h2⟩ | ⟨h1, h2⟩ <;> rw [h2] <;> unfold cmpI <;> (repeat' split) <;> omega

set_option maxRecDepth 100000 in
set_option maxHeartbeats 2000000 in
theorem rsub_any (nx : Bool) (A : Option Addr) (ca : Nat) (xs : List Nat) (ny : Bool) (B : Option Addr) (cb : Nat) (ys : List Nat) (w : World) (hx : Sl w w.heap.size A ca xs) (hy : Sl w w.heap.size B cb ys) (hlx : xs.length ≤ 99999999) (hly : ys.length ≤ 99999999) :
    Calls Tryd.prog 33 #[intV nx A xs.length ca, intV ny B ys.length cb] w (IntRes (Kn.iv nx xs - Kn.iv ny ys) w) := by
  obtain ⟨z, hz⟩ : ∃ z : Int, z = Kn.iv nx xs - Kn.iv ny ys := ⟨_, rfl⟩
  rw [← hz]
  have HZ := Lib.hid hz
  clear hz
  obtain ⟨zn, hzn⟩ : ∃ z : Int, Hid (z = Kn.iv (!ny) ys) := ⟨_, Lib.hid rfl⟩
  have hln : (Kn.dig zn.natAbs).length ≤ 99999999 := Nat.le_trans (dig_abs_len (by rw [hzn.out]; exact iv_abs_lt _ hy.wd)) hly
  have HN : Hid (∀ w : World, Sl w w.heap.size B cb ys → Calls Tryd.prog 64 #[.agg #[.bool ny, .slice B ys.length cb]] w (IntRes zn w)) := Lib.hid (fun w h => by rw [hzn.out]; exact rneg_any ny B cb ys w h (by omega))
  have HD : Hid (∀ (w : World) (A3 : Option Addr) (c3 : Nat), Sl w w.heap.size A ca xs → Sl w w.heap.size A3 c3 (Kn.dig zn.natAbs) → Calls Tryd.prog 63 #[.agg #[.bool nx, .slice A xs.length ca], .agg #[.bool (decide (zn < 0)), .slice A3 (Kn.dig zn.natAbs).length c3]] w (IntRes z w)) := Lib.hid (fun w A3 c3 h h3 => by
    have := radd_any nx A ca xs (decide (zn < 0)) A3 c3 (Kn.dig zn.natAbs) w h h3 hlx hln
    rwa [Kn.iv_dig, show Kn.iv nx xs + zn = z by rw [HZ.out, hzn.out, iv_not]; omega] at this)
  unfold intV
  go_enter Tryd.func33, Tryd.ntmps33
  go_wp2_with fail
  have i := B3.new_ w nx A xs.length ca ny B ys.length cb 24
  revert i
  generalize ((w.alloc (.cells #[.bool nx, .slice A xs.length ca] 24)).alloc (.cells #[.bool ny, .slice B ys.length cb] 24)).alloc (.cells #[.bool false, .slice none 0 0] 24) = wx
  intro i
  replace i := i.drew
  go_region_held3 (fun w' => w'.cell? ⟨w.heap.size, 0, none⟩ = some (.bool nx) ∧ w'.cell? ⟨w.heap.size, 1, none⟩ = some (.slice A xs.length ca) ∧ w'.cell? ⟨w.heap.size + 1, 0, none⟩ = some (.bool ny) ∧ w'.cell? ⟨w.heap.size + 1, 1, none⟩ = some (.slice B ys.length cb))
    (first | exact ⟨i.t1.c0, i.t1.c1, i.t2.c0, i.t2.c1⟩ | exact ⟨((i.t1.far (by simp; omega) _).far (by simp; omega) _).c0, ((i.t1.far (by simp; omega) _).far (by simp; omega) _).c1, ((i.t2.far (by simp) _).far (by simp) _).c0, ((i.t2.far (by simp) _).far (by simp) _).c1⟩)
    (first
      | (go_at_call 64; refine (HN.out _ ((hy.below i.bel).more i.bel.size)).mono ?_; rintro e w3 ⟨A3, c3, rfl, hS, hb3⟩; replace i := i.below hb3)
      | (go_at_call 63; refine (HD.out _ A3 c3 ((hx.below i.bel).more i.bel.size) hS).mono ?_; rintro e w4 ⟨A4, c4, rfl, hS4, hb4⟩; replace i := i.below hb4; have d20 := i.t3.c0; have d21 := i.t3.c1; have f20 := i.t3.fr 0; have f21 := i.t3.fr 1))
  all_goals
    have R := Lib.hid (two_set w4 (.bool (decide (z < 0))) (.slice A4 (Kn.dig z.natAbs).length c4) d20 d21)
    clear d20 d21 f20 f21
    go_wp2_with fail
    obtain ⟨r0, r1⟩ := R.out
    refine bodyPost_ret (v := .agg #[.bool (decide (z < 0)), .slice A4 (Kn.dig z.natAbs).length c4]) (by simp [results, Tryd.results33, go_sem, r0, r1]) rfl ?_
    exact i.fin hS4

end Go.Proofs.YtmhfdmidaheoeaaDoor
