/- Walks: the reference's Mul. -/
import Derived.Test.YtmhfdmidaheoeaaDoorWm
import Derived.Test.YtmhfdmidaheoeaaDoorWe
import Derived.Test.YtmhfdmidaheoeaaDoorW9
import Derived.Test.YtmhfdmidaheoeaaDoorLw
namespace Go.Proofs.YtmhfdmidaheoeaaDoor
open Go.RowKit
set_option linter.unusedVariables false

set_option maxRecDepth 100000 in
set_option maxHeartbeats 2000000 in
theorem rmul_any (nx : Bool) (A : Option Addr) (ca : Nat) (xs : List Nat) (ny : Bool) (B : Option Addr) (cb : Nat) (ys : List Nat) (w : World) (hx : Sl w w.heap.size A ca xs) (hy : Sl w w.heap.size B cb ys) (hlx : xs.length ≤ 1000000) (hly : ys.length ≤ 1000000) :
    Calls Tryd.prog 35 #[intV nx A xs.length ca, intV ny B ys.length cb] w (IntRes (Kn.iv nx xs * Kn.iv ny ys) w) := by
  have hdx : (Kn.dig (Kn.val xs)).length ≤ 1000000 := Nat.le_trans (Kn.dig_len_val hx.wd) hlx
  have hdy : (Kn.dig (Kn.val ys)).length ≤ 1000000 := Nat.le_trans (Kn.dig_len_val hy.wd) hly
  have hvx := Lib.hid (Kn.val_dig (Kn.val xs))
  have hvy := Lib.hid (Kn.val_dig (Kn.val ys))
  have hdl := dig_len_mul hx.wd hy.wd
  obtain ⟨z, hz⟩ : ∃ z : Int, z = Kn.iv nx xs * Kn.iv ny ys := ⟨_, rfl⟩
  rw [← hz]
  have HZ := Lib.hid hz
  clear hz
  unfold intV
  go_enter Tryd.func35, Tryd.ntmps35
  go_wp2_with fail
  have i := B3.new_ w nx A xs.length ca ny B ys.length cb 24
  revert i
  generalize ((w.alloc (.cells #[.bool nx, .slice A xs.length ca] 24)).alloc (.cells #[.bool ny, .slice B ys.length cb] 24)).alloc (.cells #[.bool false, .slice none 0 0] 24) = wx
  intro i
  replace i := i.drew
  go_region_held3 (fun w' => w'.cell? ⟨w.heap.size, 0, none⟩ = some (.bool nx) ∧ w'.cell? ⟨w.heap.size, 1, none⟩ = some (.slice A xs.length ca) ∧ w'.cell? ⟨w.heap.size + 1, 0, none⟩ = some (.bool ny) ∧ w'.cell? ⟨w.heap.size + 1, 1, none⟩ = some (.slice B ys.length cb))
    (first | exact ⟨i.t1.c0, i.t1.c1, i.t2.c0, i.t2.c1⟩ | exact ⟨((i.t1.far (by simp; omega) _).far (by simp; omega) _).c0, ((i.t1.far (by simp; omega) _).far (by simp; omega) _).c1, ((i.t2.far (by simp) _).far (by simp) _).c0, ((i.t2.far (by simp) _).far (by simp) _).c1⟩)
    (first
      | (go_at_call 30; (with_reducible refine (rtrim_any A ca xs _ ((hx.below i.bel).more i.bel.size) (by omega)).mono ?_); rintro e wA ⟨A2, c2, rfl, hSx, hbx⟩; replace i := i.below hbx; (try (replace hSy := hSy.at_ hbx (Nat.le_refl _))))
      | (go_at_call 30; (with_reducible refine (rtrim_any B cb ys _ ((hy.below i.bel).more i.bel.size) (by omega)).mono ?_); rintro e wB ⟨B2, d2, rfl, hSy, hby⟩; replace i := i.below hby; (try (replace hSx := hSx.at_ hby (Nat.le_refl _))))
      | (go_at_call 65; refine (rmulWords_any A2 c2 _ B2 d2 _ _ hSx hSy hdx hdy).mono ?_; rintro e w3 ⟨A3, c3, rfl, hS, hb3⟩; replace i := i.below hb3; rw [hvx.out, hvy.out] at hS ⊢)
      | (go_at_call 32; refine (made_any (nx != ny) A3 c3 _ _ hS (by omega)).mono ?_; rintro e w4 ⟨A4, c4, rfl, hS4, hb4⟩; replace i := i.below hb4; have d20 := i.t3.c0; have d21 := i.t3.c1; have f20 := i.t3.fr 0; have f21 := i.t3.fr 1))
  all_goals
    rw [show Kn.iv (nx != ny) (Kn.dig (Kn.val xs * Kn.val ys)) = z by rw [HZ.out, iv_mul]] at hS4 ⊢
    have R := Lib.hid (two_set w4 (.bool (decide (z < 0))) (.slice A4 (Kn.dig z.natAbs).length c4) d20 d21)
    clear d20 d21 f20 f21
    go_wp2_with fail
    obtain ⟨r0, r1⟩ := R.out
    refine bodyPost_ret (v := .agg #[.bool (decide (z < 0)), .slice A4 (Kn.dig z.natAbs).length c4]) (by simp [results, Tryd.results35, go_sem, r0, r1]) rfl ?_
    exact i.fin hS4

theorem grmul {W : World} {p q : Bool} {A B : Option Addr} {c d n k : Nat} {l m : List Nat} {x y : Int} (h1 : Iv W p A c l x n) (h2 : Iv W q B d m y k) (hn : n ≤ 100) (hk : k ≤ 100) : Calls Tryd.prog 35 #[.agg #[.bool p, .slice A l.length c], .agg #[.bool q, .slice B m.length d]] W (GI (x * y) (n + k) W) := by
  have h := rmul_any p A c l q B d m W h1.sl h2.sl (by have := h1.len; omega) (by have := h2.len; omega)
  rw [h1.val, h2.val] at h
  exact h.mono fun _ _ hr => GI.of hr (by rw [Int.natAbs_mul, Kn.pw_add]; exact Nat.mul_lt_mul'' h1.abs h2.abs)
end Go.Proofs.YtmhfdmidaheoeaaDoor
