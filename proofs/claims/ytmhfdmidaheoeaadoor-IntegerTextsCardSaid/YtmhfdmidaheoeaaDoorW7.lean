/- Walks: addSigned, Add, Sub. -/
import Derived.Test.YtmhfdmidaheoeaaDoorW6
namespace Go.Proofs.YtmhfdmidaheoeaaDoor
open Go.RowKit
set_option linter.unusedVariables false

/-- a call's world with two arguments' boxes and the result's -/
structure B3 (w wr : World) (nx : Bool) (A : Option Addr) (n ca : Nat) (ny : Bool) (B : Option Addr) (m cb : Nat) : Prop where
  t1 : Two wr w.heap.size (.bool nx) (.slice A n ca)
  t2 : Two wr (w.heap.size + 1) (.bool ny) (.slice B m cb)
  t3 : Two wr (w.heap.size + 2) (.bool false) (.slice none 0 0)
  bel : Below w.heap.size w wr
section
variable {w wr wx : World} {nx ny : Bool} {A B : Option Addr} {n m ca cb : Nat}
theorem B3.below (h : B3 w wr nx A n ca ny B m cb) (hb : Below wr.heap.size wr wx) : B3 w wx nx A n ca ny B m cb := ⟨h.t1.below hb h.t1.lt, h.t2.below hb h.t2.lt, h.t3.below hb h.t3.lt, h.bel.trans (hb.mono h.bel.size)⟩
theorem B3.drew (h : B3 w wr nx A n ca ny B m cb) : B3 w wr.drew nx A n ca ny B m cb := ⟨h.t1.drew, h.t2.drew, h.t3.drew, bDrew1 h.bel⟩
theorem B3.drewN (h : B3 w wr nx A n ca ny B m cb) (q : Nat) : B3 w (wr.drewN q) nx A n ca ny B m cb := ⟨h.t1.drewN q, h.t2.drewN q, h.t3.drewN q, bDrew h.bel q⟩
theorem B3.new_ (w : World) (nx : Bool) (A : Option Addr) (n ca : Nat) (ny : Bool) (B : Option Addr) (m cb : Nat) (T : TypeId) :
    B3 w (((w.alloc (.cells #[.bool nx, .slice A n ca] T)).alloc (.cells #[.bool ny, .slice B m cb] T)).alloc (.cells #[.bool false, .slice none 0 0] T)) nx A n ca ny B m cb :=
  ⟨((Two.new_ _ _ _ _).alloc _).alloc _, by simpa using (Two.new_ (w.alloc (.cells #[.bool nx, .slice A n ca] T)) (.bool ny) (.slice B m cb) T).alloc (.cells #[.bool false, .slice none 0 0] T),
    by simpa using Two.new_ ((w.alloc (.cells #[.bool nx, .slice A n ca] T)).alloc (.cells #[.bool ny, .slice B m cb] T)) (.bool false) (.slice none 0 0) T,
    (((Below.refl _ _).alloc (Nat.le_refl _) _).alloc (by simp) _).alloc (by simp; omega) _⟩
theorem B3.fin (h : B3 w wr nx A n ca ny B m cb) {z : Int} {A' : Option Addr} {c' : Nat} (hs : Sl wr wr.heap.size A' c' (Kn.dig z.natAbs)) :
    IntRes z w (.returned (.agg #[.bool (decide (z < 0)), .slice A' (Kn.dig z.natAbs).length c'])) ((wr.setCell ⟨w.heap.size + 2, 0, none⟩ (.bool (decide (z < 0)))).setCell ⟨w.heap.size + 2, 1, none⟩ (.slice A' (Kn.dig z.natAbs).length c')) := by
  refine ⟨A', c', rfl, ?_, ?_⟩
  · have := hs.put h.t3 (.bool (decide (z < 0))) (.slice A' (Kn.dig z.natAbs).length c')
    exact this.more (by simp [World.setCell])
  · exact (h.bel.setCell (p := ⟨w.heap.size + 2, 0, none⟩) (by simp) _).setCell (p := ⟨w.heap.size + 2, 1, none⟩) (by simp) _
end

theorem compare_lt (A : Option Addr) (ca : Nat) (n : Nat) (B : Option Addr) (cb : Nat) (m : Nat) (w : World) (P : Nat) (ha : Sl w P A ca (Kn.dig n)) (hb : Sl w P B cb (Kn.dig m)) (hla : (Kn.dig n).length ≤ 1000000000) (hlb : (Kn.dig m).length ≤ 1000000000) (h : n < m) :
    Calls Tryd.prog 41 #[.slice A (Kn.dig n).length ca, .slice B (Kn.dig m).length cb] w fun e w' => e = .returned (.int .i64 (-1)) ∧ ∃ q, w' = w.drewN q := by
  have := compareWords_any A ca n B cb m w P ha hb hla hlb
  rwa [Kn.cmp_lt h] at this
theorem compare_ge (A : Option Addr) (ca : Nat) (n : Nat) (B : Option Addr) (cb : Nat) (m : Nat) (w : World) (P : Nat) (ha : Sl w P A ca (Kn.dig n)) (hb : Sl w P B cb (Kn.dig m)) (hla : (Kn.dig n).length ≤ 1000000000) (hlb : (Kn.dig m).length ≤ 1000000000) (h : m ≤ n) :
    Calls Tryd.prog 41 #[.slice A (Kn.dig n).length ca, .slice B (Kn.dig m).length cb] w fun e w' => ∃ c : Nat, e = .returned (.int .i64 (c : Int)) ∧ ∃ q, w' = w.drewN q := by
  have := compareWords_any A ca n B cb m w P ha hb hla hlb
  rcases Nat.eq_or_lt_of_le h with h | h
  · rw [h, Kn.cmp_self] at this
    rw [h]
    exact this.mono fun _ _ ⟨he, hq⟩ => ⟨0, he, hq⟩
  · rw [Kn.cmp_gt h] at this
    exact this.mono fun _ _ ⟨he, hq⟩ => ⟨1, he, hq⟩
theorem iv_dig_add (s : Bool) (xs ys : List Nat) : Kn.iv s (Kn.dig (Kn.val xs + Kn.val ys)) = Kn.iv s xs + Kn.iv s ys := by
  unfold Kn.iv; rw [Kn.val_dig]; cases s <;> simp <;> omega
theorem iv_dig_sub (s : Bool) (xs ys : List Nat) (h : Kn.val ys ≤ Kn.val xs) : Kn.iv s (Kn.dig (Kn.val xs - Kn.val ys)) = Kn.iv s xs + Kn.iv (!s) ys := by
  unfold Kn.iv; rw [Kn.val_dig]; cases s <;> simp <;> omega
theorem dig_len_add {xs ys : List Nat} (hx : Kn.Wd xs) (hy : Kn.Wd ys) : (Kn.dig (Kn.val xs + Kn.val ys)).length ≤ max xs.length ys.length + 1 := by
  refine Kn.dig_len_le ?_
  have h1 := Kn.val_lt hx
  have h2 := Kn.val_lt hy
  have h3 := Kn.pw_mono (show xs.length ≤ max xs.length ys.length by omega)
  have h4 := Kn.pw_mono (show ys.length ≤ max xs.length ys.length by omega)
  rw [Kn.pw_succ]; omega

set_option maxRecDepth 100000 in
set_option maxHeartbeats 1000000 in
theorem addSigned_any (nx : Bool) (A : Option Addr) (ca : Nat) (xs : List Nat) (ny : Bool) (B : Option Addr) (cb : Nat) (ys : List Nat) (ng : Bool) (w : World) (hx : Sl w w.heap.size A ca xs) (hy : Sl w w.heap.size B cb ys) (hlx : xs.length ≤ 99999999) (hly : ys.length ≤ 99999999) :
    Calls Tryd.prog 37 #[intV nx A xs.length ca, intV ny B ys.length cb, .bool ng] w (IntRes (Kn.iv nx xs + Kn.iv ng ys) w) := by
  have hdx : (Kn.dig (Kn.val xs)).length ≤ 99999999 := Nat.le_trans (Kn.dig_len_val hx.wd) hlx
  have hdy : (Kn.dig (Kn.val ys)).length ≤ 99999999 := Nat.le_trans (Kn.dig_len_val hy.wd) hly
  have hvx := Lib.hid (Kn.val_dig (Kn.val xs))
  have hvy := Lib.hid (Kn.val_dig (Kn.val ys))
  have key : ∀ (w1 : World), B3 w w1 nx A xs.length ca ny B ys.length cb → Sl w1 w1.heap.size A ca (Kn.dig (Kn.val xs)) ∧ Sl w1 w1.heap.size B cb (Kn.dig (Kn.val ys)) := fun w1 i =>
    ⟨((hx.below i.bel).more i.bel.size).trim, ((hy.below i.bel).more i.bel.size).trim⟩
  have KEY := Lib.hid key
  clear key
  obtain ⟨z, hz⟩ : ∃ z : Int, z = Kn.iv nx xs + Kn.iv ng ys := ⟨_, rfl⟩
  rw [← hz]
  have HZ := Lib.hid hz
  clear hz
  unfold intV
  by_cases hs : nx = ng
  · subst hs
    go_enter Tryd.func37, Tryd.ntmps37
    go_wp2_with fail
    have i := B3.new_ w nx A xs.length ca ny B ys.length cb 24
    revert i
    generalize ((w.alloc (.cells #[.bool nx, .slice A xs.length ca] 24)).alloc (.cells #[.bool ny, .slice B ys.length cb] 24)).alloc (.cells #[.bool false, .slice none 0 0] 24) = wx
    intro i
    have c11 := i.t1.c1
    have c21 := i.t2.c1
    have hX := (hx.below i.bel).more i.bel.size
    have hY := (hy.below i.bel).more i.bel.size
    go_quiet (first
      | (go_at_call 25; with_reducible exact quiet_of_eq (trim_any A ca xs _ _ (hX.drewN _) (by omega)))
      | (go_at_call 25; with_reducible exact quiet_of_eq (trim_any B cb ys _ _ (hY.drewN _) (by omega))))
    replace i := i.drewN nq
    clear c11 c21 hX hY
    revert i
    generalize wx.drewN nq = wy
    intro i
    have c10 := i.t1.c0
    obtain ⟨hX, hY⟩ := KEY.out _ i
    go_wp2_with fail
    refine (addWords_any A ca _ B cb _ _ hX hY (by omega) (by omega)).mono ?_
    rintro e w3 ⟨A3, c3, rfl, hS, hb3⟩
    replace i := i.below hb3
    clear hX hY c10
    rw [hvx.out, hvy.out] at hS ⊢
    go_wp2_with fail
    refine (signed_any nx A3 c3 _ _ hS (by have := dig_len_add hx.wd hy.wd; omega)).mono ?_
    rintro e w4 ⟨A4, c4, rfl, hS4, hb4⟩
    replace i := i.below hb4
    have d20 := i.t3.c0
    have d21 := i.t3.c1
    have f20 := i.t3.fr 0
    have f21 := i.t3.fr 1
    rw [show Kn.iv nx (Kn.dig (Kn.val xs + Kn.val ys)) = z by rw [HZ.out, iv_dig_add]] at hS4 ⊢
    have R := Lib.hid (two_set w4 (.bool (decide (z < 0))) (.slice A4 (Kn.dig z.natAbs).length c4) d20 d21)
    go_wp2_with fail
    obtain ⟨r0, r1⟩ := R.out
    refine bodyPost_ret (v := .agg #[.bool (decide (z < 0)), .slice A4 (Kn.dig z.natAbs).length c4]) (by simp [results, Tryd.results37, go_sem, r0, r1]) rfl ?_
    exact i.fin hS4
  · obtain rfl : ng = !nx := by cases nx <;> cases ng <;> simp_all
    have hsb : (nx == !nx) = false := by cases nx <;> rfl
    clear hs
    go_enter Tryd.func37, Tryd.ntmps37
    go_wp2_with fail
    have i := B3.new_ w nx A xs.length ca ny B ys.length cb 24
    revert i
    generalize ((w.alloc (.cells #[.bool nx, .slice A xs.length ca] 24)).alloc (.cells #[.bool ny, .slice B ys.length cb] 24)).alloc (.cells #[.bool false, .slice none 0 0] 24) = wx
    intro i
    have c11 := i.t1.c1
    have c21 := i.t2.c1
    have hX := (hx.below i.bel).more i.bel.size
    have hY := (hy.below i.bel).more i.bel.size
    go_quiet (first
      | (go_at_call 25; with_reducible exact quiet_of_eq (trim_any A ca xs _ _ (hX.drewN _) (by omega)))
      | (go_at_call 25; with_reducible exact quiet_of_eq (trim_any B cb ys _ _ (hY.drewN _) (by omega))))
    replace i := i.drewN nq
    clear c11 c21 hX hY
    revert i
    generalize wx.drewN nq = wy
    intro i
    have c10 := i.t1.c0
    obtain ⟨hX, hY⟩ := KEY.out _ i
    by_cases hlt : Kn.val xs < Kn.val ys
    · have HLT := Lib.hid hlt
      clear hlt
      go_wp2_with fail
      refine (compare_lt A ca _ B cb _ _ _ hX hY (by omega) (by omega) HLT.out).mono ?_
      rintro e w2 ⟨rfl, q, rfl⟩
      clear c10 hX hY
      replace i := i.drewN q
      revert i
      generalize wy.drewN q = wz
      intro i
      obtain ⟨hX, hY⟩ := KEY.out _ i
      go_wp2_with fail
      refine (subtractWords_any B cb _ A ca _ _ hY hX (by omega) (by omega) (by rw [hvx.out, hvy.out]; exact Nat.le_of_lt HLT.out)).mono ?_
      rintro e w3 ⟨A3, c3, rfl, hS, hb3⟩
      replace i := i.below hb3
      clear hX hY
      rw [hvx.out, hvy.out] at hS ⊢
      go_wp2_with fail
      refine (signed_any (!nx) A3 c3 _ _ hS (by have := Kn.dig_len_le (n := Kn.val ys - Kn.val xs) (k := ys.length) (by have := Kn.val_lt hy.wd; omega); omega)).mono ?_
      rintro e w4 ⟨A4, c4, rfl, hS4, hb4⟩
      replace i := i.below hb4
      have d20 := i.t3.c0
      have d21 := i.t3.c1
      have f20 := i.t3.fr 0
      have f21 := i.t3.fr 1
      rw [show Kn.iv (!nx) (Kn.dig (Kn.val ys - Kn.val xs)) = z by rw [HZ.out, iv_dig_sub _ _ _ (Nat.le_of_lt HLT.out), Bool.not_not]; omega] at hS4 ⊢
      have R := Lib.hid (two_set w4 (.bool (decide (z < 0))) (.slice A4 (Kn.dig z.natAbs).length c4) d20 d21)
      go_wp2_with fail
      obtain ⟨r0, r1⟩ := R.out
      refine bodyPost_ret (v := .agg #[.bool (decide (z < 0)), .slice A4 (Kn.dig z.natAbs).length c4]) (by simp [results, Tryd.results37, go_sem, r0, r1]) rfl ?_
      exact i.fin hS4
    · have hge : Kn.val ys ≤ Kn.val xs := by omega
      have HGE := Lib.hid hge
      clear hge hlt
      go_wp2_with fail
      refine (compare_ge A ca _ B cb _ _ _ hX hY (by omega) (by omega) HGE.out).mono ?_
      rintro e w2 ⟨cc, rfl, q, rfl⟩
      have hcc : ¬ ((cc : Int) < 0) := by omega
      clear c10 hX hY
      replace i := i.drewN q
      revert i
      generalize wy.drewN q = wz
      intro i
      have c10 := i.t1.c0
      go_wp2_with fail
      replace i := i.drew
      obtain ⟨hX, hY⟩ := KEY.out _ i
      go_region_held3 (fun w' => w'.cell? ⟨w.heap.size, 0, none⟩ = some (.bool nx))
        (first | exact i.t1.c0 | exact ((i.t1.far (by simp; omega) _).far (by simp; omega) _).c0)
        (first
          | (go_at_call 28; refine (subtractWords_any A ca _ B cb _ _ hX hY (by omega) (by omega) (by rw [hvx.out, hvy.out]; exact HGE.out)).mono ?_; rintro e w3 ⟨A3, c3, rfl, hS, hb3⟩; replace i := i.below hb3; rw [hvx.out, hvy.out] at hS ⊢)
          | (go_at_call 29; refine (signed_any nx A3 c3 _ _ hS (by have := Kn.dig_len_le (n := Kn.val xs - Kn.val ys) (k := xs.length) (by have := Kn.val_lt hx.wd; omega); omega)).mono ?_; rintro e w4 ⟨A4, c4, rfl, hS4, hb4⟩; replace i := i.below hb4; have d20 := i.t3.c0; have d21 := i.t3.c1; have f20 := i.t3.fr 0; have f21 := i.t3.fr 1))
      rw [show Kn.iv nx (Kn.dig (Kn.val xs - Kn.val ys)) = z by rw [HZ.out, iv_dig_sub _ _ _ HGE.out]] at hS4 ⊢
      have R := Lib.hid (two_set w4 (.bool (decide (z < 0))) (.slice A4 (Kn.dig z.natAbs).length c4) d20 d21)
      clear d20 d21 f20 f21
      go_wp2_with fail
      obtain ⟨r0, r1⟩ := R.out
      refine bodyPost_ret (v := .agg #[.bool (decide (z < 0)), .slice A4 (Kn.dig z.natAbs).length c4]) (by simp [results, Tryd.results37, go_sem, r0, r1]) rfl ?_
      exact i.fin hS4

theorem iv_not (s : Bool) (l : List Nat) : Kn.iv (!s) l = - Kn.iv s l := by unfold Kn.iv; cases s <;> simp

set_option maxRecDepth 100000 in
set_option maxHeartbeats 1000000 in
theorem add_any (nx : Bool) (A : Option Addr) (ca : Nat) (xs : List Nat) (ny : Bool) (B : Option Addr) (cb : Nat) (ys : List Nat) (w : World) (hx : Sl w w.heap.size A ca xs) (hy : Sl w w.heap.size B cb ys) (hlx : xs.length ≤ 99999999) (hly : ys.length ≤ 99999999) :
    Calls Tryd.prog 13 #[intV nx A xs.length ca, intV ny B ys.length cb] w (IntRes (Kn.iv nx xs + Kn.iv ny ys) w) := by
  obtain ⟨z, hz⟩ : ∃ z : Int, z = Kn.iv nx xs + Kn.iv ny ys := ⟨_, rfl⟩
  rw [← hz]
  have HZ := Lib.hid hz
  clear hz
  have hA : ∀ w : World, Sl w w.heap.size A ca xs → Sl w w.heap.size B cb ys → Calls Tryd.prog 37 #[.agg #[.bool nx, .slice A xs.length ca], .agg #[.bool ny, .slice B ys.length cb], .bool ny] w (IntRes z w) := fun w hx hy => by
    have := addSigned_any nx A ca xs ny B cb ys ny w hx hy hlx hly
    rwa [show Kn.iv nx xs + Kn.iv ny ys = z by rw [HZ.out]] at this
  have HA := Lib.hid hA
  clear hA
  unfold intV
  go_enter Tryd.func13, Tryd.ntmps13
  go_wp2_with fail
  have i := B3.new_ w nx A xs.length ca ny B ys.length cb 24
  revert i
  generalize ((w.alloc (.cells #[.bool nx, .slice A xs.length ca] 24)).alloc (.cells #[.bool ny, .slice B ys.length cb] 24)).alloc (.cells #[.bool false, .slice none 0 0] 24) = wx
  intro i
  have c10 := i.t1.c0
  have c11 := i.t1.c1
  have c20 := i.t2.c0
  have c21 := i.t2.c1
  go_wp2_with fail
  refine (HA.out _ ((hx.below i.bel).more i.bel.size) ((hy.below i.bel).more i.bel.size)).mono ?_
  rintro e w4 ⟨A4, c4, rfl, hS4, hb4⟩
  replace i := i.below hb4
  clear c10 c11 c20 c21
  have d20 := i.t3.c0
  have d21 := i.t3.c1
  have f20 := i.t3.fr 0
  have f21 := i.t3.fr 1
  have R := Lib.hid (two_set w4 (.bool (decide (z < 0))) (.slice A4 (Kn.dig z.natAbs).length c4) d20 d21)
  go_wp2_with fail
  obtain ⟨r0, r1⟩ := R.out
  refine bodyPost_ret (v := .agg #[.bool (decide (z < 0)), .slice A4 (Kn.dig z.natAbs).length c4]) (by simp [results, Tryd.results13, go_sem, r0, r1]) rfl ?_
  exact i.fin hS4

end Go.Proofs.YtmhfdmidaheoeaaDoor
