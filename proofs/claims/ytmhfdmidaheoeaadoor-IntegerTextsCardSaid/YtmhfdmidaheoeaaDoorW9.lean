/- Walks: Mul. -/
import Derived.Test.YtmhfdmidaheoeaaDoorW8
namespace Go.Proofs.YtmhfdmidaheoeaaDoor
open Go.RowKit
set_option linter.unusedVariables false

theorem dig_len_mul {xs ys : List Nat} (hx : Kn.Wd xs) (hy : Kn.Wd ys) : (Kn.dig (Kn.val xs * Kn.val ys)).length ≤ xs.length + ys.length := by
  refine Kn.dig_len_le ?_
  rw [Kn.pw_add]
  have h1 := Kn.val_lt hx
  have h2 := Kn.val_lt hy
  exact Nat.mul_lt_mul'' h1 h2
theorem iv_mul (p q : Bool) (xs ys : List Nat) : Kn.iv (p != q) (Kn.dig (Kn.val xs * Kn.val ys)) = Kn.iv p xs * Kn.iv q ys := by
  unfold Kn.iv; rw [Kn.val_dig]; cases p <;> cases q <;> simp [Int.natCast_mul, Int.neg_mul, Int.mul_neg]

set_option maxRecDepth 100000 in
set_option maxHeartbeats 1000000 in
theorem mul_any (nx : Bool) (A : Option Addr) (ca : Nat) (xs : List Nat) (ny : Bool) (B : Option Addr) (cb : Nat) (ys : List Nat) (w : World) (hx : Sl w w.heap.size A ca xs) (hy : Sl w w.heap.size B cb ys) (hlx : xs.length ≤ 99999999) (hly : ys.length ≤ 99999999) :
    Calls Tryd.prog 14 #[intV nx A xs.length ca, intV ny B ys.length cb] w (IntRes (Kn.iv nx xs * Kn.iv ny ys) w) := by
  obtain ⟨z, hz⟩ : ∃ z : Int, z = Kn.iv nx xs * Kn.iv ny ys := ⟨_, rfl⟩
  rw [← hz]
  have HZ := Lib.hid hz
  clear hz
  have hdx : (Kn.dig (Kn.val xs)).length ≤ 99999999 := Nat.le_trans (Kn.dig_len_val hx.wd) hlx
  have hdy : (Kn.dig (Kn.val ys)).length ≤ 99999999 := Nat.le_trans (Kn.dig_len_val hy.wd) hly
  have hvx := Lib.hid (Kn.val_dig (Kn.val xs))
  have hvy := Lib.hid (Kn.val_dig (Kn.val ys))
  have hdl := dig_len_mul hx.wd hy.wd
  unfold intV
  go_enter Tryd.func14, Tryd.ntmps14
  go_wp2_with fail
  have i := B3.new_ w nx A xs.length ca ny B ys.length cb 24
  revert i
  generalize ((w.alloc (.cells #[.bool nx, .slice A xs.length ca] 24)).alloc (.cells #[.bool ny, .slice B ys.length cb] 24)).alloc (.cells #[.bool false, .slice none 0 0] 24) = wx
  intro i
  replace i := i.drew
  have hX := (hx.below i.bel).more i.bel.size
  have hY := (hy.below i.bel).more i.bel.size
  go_region_held3 (fun w' => w'.cell? ⟨w.heap.size, 0, none⟩ = some (.bool nx) ∧ w'.cell? ⟨w.heap.size, 1, none⟩ = some (.slice A xs.length ca) ∧ w'.cell? ⟨w.heap.size + 1, 0, none⟩ = some (.bool ny) ∧ w'.cell? ⟨w.heap.size + 1, 1, none⟩ = some (.slice B ys.length cb))
    (first | exact ⟨i.t1.c0, i.t1.c1, i.t2.c0, i.t2.c1⟩ | exact ⟨((i.t1.far (by simp; omega) _).far (by simp; omega) _).c0, ((i.t1.far (by simp; omega) _).far (by simp; omega) _).c1, ((i.t2.far (by simp) _).far (by simp) _).c0, ((i.t2.far (by simp) _).far (by simp) _).c1⟩)
    (first
      | (go_at_call 25; (with_reducible refine (trim_any A ca xs _ _ hX (by omega)).mono ?_); rintro e w' ⟨rfl, rfl⟩)
      | (go_at_call 25; (with_reducible refine (trim_any B cb ys _ _ hY (by omega)).mono ?_); rintro e w' ⟨rfl, rfl⟩)
      | (go_at_call 38; refine (multiplyWords_any A ca _ B cb _ _ hX.trim hY.trim hdx hdy).mono ?_; rintro e w3 ⟨A3, c3, rfl, hS, hb3⟩; replace i := i.below hb3; rw [hvx.out, hvy.out] at hS ⊢)
      | (go_at_call 29; refine (signed_any (nx != ny) A3 c3 _ _ hS (by omega)).mono ?_; rintro e w4 ⟨A4, c4, rfl, hS4, hb4⟩; replace i := i.below hb4; have d20 := i.t3.c0; have d21 := i.t3.c1; have f20 := i.t3.fr 0; have f21 := i.t3.fr 1))
  all_goals
    rw [show Kn.iv (nx != ny) (Kn.dig (Kn.val xs * Kn.val ys)) = z by rw [HZ.out, iv_mul]] at hS4 ⊢
    have R := Lib.hid (two_set w4 (.bool (decide (z < 0))) (.slice A4 (Kn.dig z.natAbs).length c4) d20 d21)
    clear d20 d21 f20 f21
    go_wp2_with fail
    obtain ⟨r0, r1⟩ := R.out
    refine bodyPost_ret (v := .agg #[.bool (decide (z < 0)), .slice A4 (Kn.dig z.natAbs).length c4]) (by simp [results, Tryd.results14, go_sem, r0, r1]) rfl ?_
    exact i.fin hS4
end Go.Proofs.YtmhfdmidaheoeaaDoor
