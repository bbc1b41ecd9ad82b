/- Walks: the reference's Add, Sub, Compare. -/
import Derived.Test.YtmhfdmidaheoeaaDoorWd
namespace Go.Proofs.YtmhfdmidaheoeaaDoor
open Go.RowKit
set_option linter.unusedVariables false

theorem rcompare_lt (A : Option Addr) (ca : Nat) (n : Nat) (B : Option Addr) (cb : Nat) (m : Nat) (w : World) (P : Nat) (ha : Sl w P A ca (Kn.dig n)) (hb : Sl w P B cb (Kn.dig m)) (hla : (Kn.dig n).length ≤ 1000000000) (hlb : (Kn.dig m).length ≤ 1000000000) (h : n < m) :
    Calls Tryd.prog 60 #[.slice A (Kn.dig n).length ca, .slice B (Kn.dig m).length cb] w fun e w' => e = .returned (.int .i64 (-1)) ∧ ∃ q, w' = w.drewN q := by
  have := rcompareWords_any A ca n B cb m w P ha hb hla hlb
  rwa [Kn.cmp_lt h] at this
theorem rcompare_ge (A : Option Addr) (ca : Nat) (n : Nat) (B : Option Addr) (cb : Nat) (m : Nat) (w : World) (P : Nat) (ha : Sl w P A ca (Kn.dig n)) (hb : Sl w P B cb (Kn.dig m)) (hla : (Kn.dig n).length ≤ 1000000000) (hlb : (Kn.dig m).length ≤ 1000000000) (h : m ≤ n) :
    Calls Tryd.prog 60 #[.slice A (Kn.dig n).length ca, .slice B (Kn.dig m).length cb] w fun e w' => ∃ c : Nat, e = .returned (.int .i64 (c : Int)) ∧ ∃ q, w' = w.drewN q := by
  have := rcompareWords_any A ca n B cb m w P ha hb hla hlb
  rcases Nat.eq_or_lt_of_le h with h | h
  · rw [h, Kn.cmp_self] at this
    rw [h]
    exact this.mono fun _ _ ⟨he, hq⟩ => ⟨0, he, hq⟩
  · rw [Kn.cmp_gt h] at this
    exact this.mono fun _ _ ⟨he, hq⟩ => ⟨1, he, hq⟩
theorem Sl.drewN_ {w : World} {A : Option Addr} {c : Nat} {ws : List Nat} (h : Sl w w.heap.size A c ws) (n : Nat) : Sl (w.drewN n) (w.drewN n).heap.size A c ws := h.drewN n
theorem dig_len_ge {n m : Nat} (h : m ≤ n) : (Kn.dig m).length ≤ (Kn.dig n).length := by
  rcases Nat.lt_or_ge (Kn.dig n).length (Kn.dig m).length with h1 | h1
  · have := Kn.dig_mono h1; omega
  · exact h1

set_option maxRecDepth 100000 in
set_option maxHeartbeats 2000000 in
theorem radd_any (nx : Bool) (A : Option Addr) (ca : Nat) (xs : List Nat) (ny : Bool) (B : Option Addr) (cb : Nat) (ys : List Nat) (w : World) (hx : Sl w w.heap.size A ca xs) (hy : Sl w w.heap.size B cb ys) (hlx : xs.length ≤ 99999999) (hly : ys.length ≤ 99999999) :
    Calls Tryd.prog 63 #[intV nx A xs.length ca, intV ny B ys.length cb] w (IntRes (Kn.iv nx xs + Kn.iv ny ys) w) := by
  have hdx : (Kn.dig (Kn.val xs)).length ≤ 99999999 := Nat.le_trans (Kn.dig_len_val hx.wd) hlx
  have hdy : (Kn.dig (Kn.val ys)).length ≤ 99999999 := Nat.le_trans (Kn.dig_len_val hy.wd) hly
  have hvx := Lib.hid (Kn.val_dig (Kn.val xs))
  have hvy := Lib.hid (Kn.val_dig (Kn.val ys))
  obtain ⟨z, hz⟩ : ∃ z : Int, z = Kn.iv nx xs + Kn.iv ny ys := ⟨_, rfl⟩
  rw [← hz]
  have HZ := Lib.hid hz
  clear hz
  unfold intV
  by_cases hs : nx = ny
  · subst hs
    go_enter Tryd.func63, Tryd.ntmps63
    go_wp2_with fail
    have i := B3.new_ w nx A xs.length ca nx B ys.length cb 24
    revert i
    generalize ((w.alloc (.cells #[.bool nx, .slice A xs.length ca] 24)).alloc (.cells #[.bool nx, .slice B ys.length cb] 24)).alloc (.cells #[.bool false, .slice none 0 0] 24) = wx
    intro i
    replace i := i.drew
    go_region_held3 (fun w' => w'.cell? ⟨w.heap.size, 1, none⟩ = some (.slice A xs.length ca) ∧ w'.cell? ⟨w.heap.size + 1, 1, none⟩ = some (.slice B ys.length cb))
      (exact ⟨i.t1.c1, i.t2.c1⟩)
      (first
        | (go_at_call 30; (with_reducible refine (rtrim_any A ca xs _ ((hx.below i.bel).more i.bel.size) (by omega)).mono ?_); rintro e wA ⟨A2, c2, rfl, hSx, hbx⟩; replace i := i.below hbx; (try (replace hSy := hSy.at_ hbx (Nat.le_refl _))))
        | (go_at_call 30; (with_reducible refine (rtrim_any B cb ys _ ((hy.below i.bel).more i.bel.size) (by omega)).mono ?_); rintro e wB ⟨B2, d2, rfl, hSy, hby⟩; replace i := i.below hby; (try (replace hSx := hSx.at_ hby (Nat.le_refl _)))))
    all_goals
      have c10 := i.t1.c0
      have c20 := i.t2.c0
      go_wp2_with fail
      clear c10 c20
      replace i := i.drew
      replace hSx : Sl _ _ A2 c2 (Kn.dig (Kn.val xs)) := hSx.drew
      replace hSy : Sl _ _ B2 d2 (Kn.dig (Kn.val ys)) := hSy.drew
      go_region_held3 (fun w' => w'.cell? ⟨w.heap.size, 0, none⟩ = some (.bool nx))
        (first | exact i.t1.c0 | exact ((i.t1.far (by simp; omega) _).far (by simp; omega) _).c0 | exact ((i.t1.far (by simp) _).far (by simp) _).c0)
        (first
          | (go_at_call 85; refine (raddWords_any A2 c2 _ B2 d2 _ _ hSx hSy (by omega) (by omega)).mono ?_; rintro e w3 ⟨A3, c3, rfl, hS, hb3⟩; replace i := i.below hb3; rw [hvx.out, hvy.out] at hS ⊢)
          | (go_at_call 32; refine (made_any nx A3 c3 _ _ hS (by have := dig_len_add hx.wd hy.wd; omega)).mono ?_; rintro e w4 ⟨A4, c4, rfl, hS4, hb4⟩; replace i := i.below hb4; have d20 := i.t3.c0; have d21 := i.t3.c1; have f20 := i.t3.fr 0; have f21 := i.t3.fr 1))
      rw [show Kn.iv nx (Kn.dig (Kn.val xs + Kn.val ys)) = z by rw [HZ.out]; rw [iv_dig_add]] at hS4 ⊢
      have R := Lib.hid (two_set w4 (.bool (decide (z < 0))) (.slice A4 (Kn.dig z.natAbs).length c4) d20 d21)
      clear d20 d21 f20 f21
      go_wp2_with fail
      obtain ⟨r0, r1⟩ := R.out
      refine bodyPost_ret (v := .agg #[.bool (decide (z < 0)), .slice A4 (Kn.dig z.natAbs).length c4]) (by simp [results, Tryd.results63, go_sem, r0, r1]) rfl ?_
      exact i.fin hS4
  · obtain rfl : ny = !nx := by cases nx <;> cases ny <;> simp_all
    have hsb : (nx == !nx) = false := by cases nx <;> rfl
    clear hs
    by_cases hlt : Kn.val xs < Kn.val ys
    · have HLT := Lib.hid hlt
      clear hlt
      go_enter Tryd.func63, Tryd.ntmps63
      go_wp2_with fail
      have i := B3.new_ w nx A xs.length ca (!nx) B ys.length cb 24
      revert i
      generalize ((w.alloc (.cells #[.bool nx, .slice A xs.length ca] 24)).alloc (.cells #[.bool (!nx), .slice B ys.length cb] 24)).alloc (.cells #[.bool false, .slice none 0 0] 24) = wx
      intro i
      replace i := i.drew
      go_region_held3 (fun w' => w'.cell? ⟨w.heap.size, 1, none⟩ = some (.slice A xs.length ca) ∧ w'.cell? ⟨w.heap.size + 1, 1, none⟩ = some (.slice B ys.length cb))
        (exact ⟨i.t1.c1, i.t2.c1⟩)
        (first
          | (go_at_call 30; (with_reducible refine (rtrim_any A ca xs _ ((hx.below i.bel).more i.bel.size) (by omega)).mono ?_); rintro e wA ⟨A2, c2, rfl, hSx, hbx⟩; replace i := i.below hbx; (try (replace hSy := hSy.at_ hbx (Nat.le_refl _))))
          | (go_at_call 30; (with_reducible refine (rtrim_any B cb ys _ ((hy.below i.bel).more i.bel.size) (by omega)).mono ?_); rintro e wB ⟨B2, d2, rfl, hSy, hby⟩; replace i := i.below hby; (try (replace hSx := hSx.at_ hby (Nat.le_refl _)))))
      all_goals
        have c10 := i.t1.c0
        have c20 := i.t2.c0
        go_wp2_with fail
        refine (rcompare_lt A2 c2 _ B2 d2 _ _ _ hSx hSy (by omega) (by omega) HLT.out).mono ?_
        rintro e wq ⟨rfl, q, rfl⟩
        clear c10 c20
        replace i := i.drewN q
        replace hSx : Sl _ _ A2 c2 (Kn.dig (Kn.val xs)) := hSx.drewN q
        replace hSy : Sl _ _ B2 d2 (Kn.dig (Kn.val ys)) := hSy.drewN q
        go_wp2_with fail
        replace i := i.drew
        replace hSx : Sl _ _ A2 c2 (Kn.dig (Kn.val xs)) := hSx.drew
        replace hSy : Sl _ _ B2 d2 (Kn.dig (Kn.val ys)) := hSy.drew
        go_region_held3 (fun w' => w'.cell? ⟨w.heap.size + 1, 0, none⟩ = some (.bool (!nx)))
          (first | exact i.t2.c0 | exact ((i.t2.far (by simp; omega) _).far (by simp; omega) _).c0 | exact ((i.t2.far (by simp) _).far (by simp) _).c0)
          (first
            | (go_at_call 62; refine (rsubWords_any B2 d2 _ A2 c2 _ _ hSy hSx (by omega) (dig_len_ge (Nat.le_of_lt HLT.out)) (Lib.hid (by rw [hvx.out, hvy.out]; exact Nat.le_of_lt HLT.out))).mono ?_; rintro e w3 ⟨A3, c3, rfl, hS, hb3⟩; replace i := i.below hb3; rw [hvx.out, hvy.out] at hS ⊢)
            | (go_at_call 32; refine (made_any (!nx) A3 c3 _ _ hS (by have := Kn.dig_len_le (n := Kn.val ys - Kn.val xs) (k := ys.length) (by have := Kn.val_lt hy.wd; omega); omega)).mono ?_; rintro e w4 ⟨A4, c4, rfl, hS4, hb4⟩; replace i := i.below hb4; have d20 := i.t3.c0; have d21 := i.t3.c1; have f20 := i.t3.fr 0; have f21 := i.t3.fr 1))
        rw [show Kn.iv (!nx) (Kn.dig (Kn.val ys - Kn.val xs)) = z by rw [HZ.out]; rw [iv_dig_sub _ _ _ (Nat.le_of_lt HLT.out), Bool.not_not]; omega] at hS4 ⊢
        have R := Lib.hid (two_set w4 (.bool (decide (z < 0))) (.slice A4 (Kn.dig z.natAbs).length c4) d20 d21)
        clear d20 d21 f20 f21
        go_wp2_with fail
        obtain ⟨r0, r1⟩ := R.out
        refine bodyPost_ret (v := .agg #[.bool (decide (z < 0)), .slice A4 (Kn.dig z.natAbs).length c4]) (by simp [results, Tryd.results63, go_sem, r0, r1]) rfl ?_
        exact i.fin hS4
    · have hge : Kn.val ys ≤ Kn.val xs := by omega
      have HGE := Lib.hid hge
      clear hge hlt
      go_enter Tryd.func63, Tryd.ntmps63
      go_wp2_with fail
      have i := B3.new_ w nx A xs.length ca (!nx) B ys.length cb 24
      revert i
      generalize ((w.alloc (.cells #[.bool nx, .slice A xs.length ca] 24)).alloc (.cells #[.bool (!nx), .slice B ys.length cb] 24)).alloc (.cells #[.bool false, .slice none 0 0] 24) = wx
      intro i
      replace i := i.drew
      go_region_held3 (fun w' => w'.cell? ⟨w.heap.size, 1, none⟩ = some (.slice A xs.length ca) ∧ w'.cell? ⟨w.heap.size + 1, 1, none⟩ = some (.slice B ys.length cb))
        (exact ⟨i.t1.c1, i.t2.c1⟩)
        (first
          | (go_at_call 30; (with_reducible refine (rtrim_any A ca xs _ ((hx.below i.bel).more i.bel.size) (by omega)).mono ?_); rintro e wA ⟨A2, c2, rfl, hSx, hbx⟩; replace i := i.below hbx; (try (replace hSy := hSy.at_ hbx (Nat.le_refl _))))
          | (go_at_call 30; (with_reducible refine (rtrim_any B cb ys _ ((hy.below i.bel).more i.bel.size) (by omega)).mono ?_); rintro e wB ⟨B2, d2, rfl, hSy, hby⟩; replace i := i.below hby; (try (replace hSx := hSx.at_ hby (Nat.le_refl _)))))
      all_goals
        have c10 := i.t1.c0
        have c20 := i.t2.c0
        go_wp2_with fail
        refine (rcompare_ge A2 c2 _ B2 d2 _ _ _ hSx hSy (by omega) (by omega) HGE.out).mono ?_
        rintro e wq ⟨cc, rfl, q, rfl⟩
        have hcc : (0 : Int) ≤ (cc : Int) := by omega
        clear c10 c20
        replace i := i.drewN q
        replace hSx : Sl _ _ A2 c2 (Kn.dig (Kn.val xs)) := hSx.drewN q
        replace hSy : Sl _ _ B2 d2 (Kn.dig (Kn.val ys)) := hSy.drewN q
        go_wp2_with fail
        replace i := i.drew
        replace hSx : Sl _ _ A2 c2 (Kn.dig (Kn.val xs)) := hSx.drew
        replace hSy : Sl _ _ B2 d2 (Kn.dig (Kn.val ys)) := hSy.drew
        go_region_held3 (fun w' => w'.cell? ⟨w.heap.size, 0, none⟩ = some (.bool nx))
          (first | exact i.t1.c0 | exact ((i.t1.far (by simp; omega) _).far (by simp; omega) _).c0 | exact ((i.t1.far (by simp) _).far (by simp) _).c0)
          (first
            | (go_at_call 62; refine (rsubWords_any A2 c2 _ B2 d2 _ _ hSx hSy (by omega) (dig_len_ge HGE.out) (Lib.hid (by rw [hvx.out, hvy.out]; exact HGE.out))).mono ?_; rintro e w3 ⟨A3, c3, rfl, hS, hb3⟩; replace i := i.below hb3; rw [hvx.out, hvy.out] at hS ⊢)
            | (go_at_call 32; refine (made_any nx A3 c3 _ _ hS (by have := Kn.dig_len_le (n := Kn.val xs - Kn.val ys) (k := xs.length) (by have := Kn.val_lt hx.wd; omega); omega)).mono ?_; rintro e w4 ⟨A4, c4, rfl, hS4, hb4⟩; replace i := i.below hb4; have d20 := i.t3.c0; have d21 := i.t3.c1; have f20 := i.t3.fr 0; have f21 := i.t3.fr 1))
        rw [show Kn.iv nx (Kn.dig (Kn.val xs - Kn.val ys)) = z by rw [HZ.out]; rw [iv_dig_sub _ _ _ HGE.out]] at hS4 ⊢
        have R := Lib.hid (two_set w4 (.bool (decide (z < 0))) (.slice A4 (Kn.dig z.natAbs).length c4) d20 d21)
        clear d20 d21 f20 f21
        go_wp2_with fail
        obtain ⟨r0, r1⟩ := R.out
        refine bodyPost_ret (v := .agg #[.bool (decide (z < 0)), .slice A4 (Kn.dig z.natAbs).length c4]) (by simp [results, Tryd.results63, go_sem, r0, r1]) rfl ?_
        exact i.fin hS4
end Go.Proofs.YtmhfdmidaheoeaaDoor
