/- The law IntegerOrder, walked. -/
import Derived.Test.YtkhpjkjegbgkcaaDoorLw
namespace Go.Proofs.YtkhpjkjegbgkcaaDoor
open Go.RowKit
set_option linter.unusedVariables false

set_option maxRecDepth 100000 in
set_option maxHeartbeats 4000000 in
theorem order_walk (nx : Bool) (A : Option Addr) (ca : Nat) (xs : List Nat) (ny : Bool) (B : Option Addr) (cb : Nat) (ys : List Nat) (nz : Bool) (C : Option Addr) (cc : Nat) (zs : List Nat) (w : World) (hx : Sl w w.heap.size A ca xs) (hy : Sl w w.heap.size B cb ys) (hz : Sl w w.heap.size C cc zs) (ht : Tabs w) :
    Calls Tryd.prog 9 #[intV nx A xs.length ca, intV ny B ys.length cb, intV nz C zs.length cc] w fun e w' => e = .returned (.bool true) ∧ Below w.heap.size w w' := by
  unfold intV
  go_enter Tryd.func9, Tryd.ntmps9
  go_wp2_with fail
  have i := A3.new_ w nx A xs.length ca ny B ys.length cb nz C zs.length cc 24
  revert i
  generalize ((w.alloc (.cells #[.bool nx, .slice A xs.length ca] 24)).alloc (.cells #[.bool ny, .slice B ys.length cb] 24)).alloc (.cells #[.bool nz, .slice C zs.length cc] 24) = w1
  intro i
  refine (known_ok _ (ht.below i.bel)).mono ?_
  rintro e w2 ⟨rfl, hb⟩
  replace i := i.below hb
  clear hb
  have x0 := i.t1.c0
  have x1 := i.t1.c1
  have y0 := i.t2.c0
  have y1 := i.t2.c1
  have z0 := i.t3.c0
  have z1 := i.t3.c1
  rcases Decidable.em (¬ xs.length ≤ 10) with hxl | hxl
  · have HL := Lib.hid hxl
    clear hxl
    go_wp2_with fail
    refine (gshort_f _ HL.out).mono ?_
    rintro e w' ⟨rfl, hb⟩
    replace i := i.below hb
    clear x0 x1 y0 y1 z0 z1
    clear hb
    go_wp2_with fail
    go_ret
    exact ⟨rfl, i.bel⟩
  replace hxl : xs.length ≤ 10 := by omega
  rcases Decidable.em (¬ ys.length ≤ 10) with hyl | hyl
  · have HL := Lib.hid hyl
    clear hyl
    go_wp2_with fail
    refine (gshort_t _ hxl).mono ?_
    rintro e w' ⟨rfl, hb⟩
    replace i := i.below hb
    clear x0 x1 y0 y1 z0 z1
    clear hb
    have x0 := i.t1.c0
    have x1 := i.t1.c1
    have y0 := i.t2.c0
    have y1 := i.t2.c1
    have z0 := i.t3.c0
    have z1 := i.t3.c1
    go_wp2_with fail
    refine (gshort_f _ HL.out).mono ?_
    rintro e w' ⟨rfl, hb⟩
    replace i := i.below hb
    clear x0 x1 y0 y1 z0 z1
    clear hb
    go_wp2_with fail
    go_ret
    exact ⟨rfl, i.bel⟩
  replace hyl : ys.length ≤ 10 := by omega
  rcases Decidable.em (¬ zs.length ≤ 10) with hzl | hzl
  · have HL := Lib.hid hzl
    clear hzl
    go_wp2_with fail
    refine (gshort_t _ hxl).mono ?_
    rintro e w' ⟨rfl, hb⟩
    replace i := i.below hb
    clear x0 x1 y0 y1 z0 z1
    clear hb
    have x0 := i.t1.c0
    have x1 := i.t1.c1
    have y0 := i.t2.c0
    have y1 := i.t2.c1
    have z0 := i.t3.c0
    have z1 := i.t3.c1
    go_wp2_with fail
    refine (gshort_t _ hyl).mono ?_
    rintro e w' ⟨rfl, hb⟩
    replace i := i.below hb
    clear x0 x1 y0 y1 z0 z1
    clear hb
    have x0 := i.t1.c0
    have x1 := i.t1.c1
    have y0 := i.t2.c0
    have y1 := i.t2.c1
    have z0 := i.t3.c0
    have z1 := i.t3.c1
    go_wp2_with fail
    refine (gshort_f _ HL.out).mono ?_
    rintro e w' ⟨rfl, hb⟩
    replace i := i.below hb
    clear x0 x1 y0 y1 z0 z1
    clear hb
    go_wp2_with fail
    go_ret
    exact ⟨rfl, i.bel⟩
  replace hzl : zs.length ≤ 10 := by omega
  go_wp2_with fail
  refine (gshort_t _ hxl).mono ?_
  rintro e w' ⟨rfl, hb⟩
  replace i := i.below hb
  clear x0 x1 y0 y1 z0 z1
  clear hb
  have x0 := i.t1.c0
  have x1 := i.t1.c1
  have y0 := i.t2.c0
  have y1 := i.t2.c1
  have z0 := i.t3.c0
  have z1 := i.t3.c1
  go_wp2_with fail
  refine (gshort_t _ hyl).mono ?_
  rintro e w' ⟨rfl, hb⟩
  replace i := i.below hb
  clear x0 x1 y0 y1 z0 z1
  clear hb
  have x0 := i.t1.c0
  have x1 := i.t1.c1
  have y0 := i.t2.c0
  have y1 := i.t2.c1
  have z0 := i.t3.c0
  have z1 := i.t3.c1
  go_wp2_with fail
  refine (gshort_t _ hzl).mono ?_
  rintro e w' ⟨rfl, hb⟩
  replace i := i.below hb
  clear x0 x1 y0 y1 z0 z1
  clear hb
  have x0 := i.t1.c0
  have x1 := i.t1.c1
  have y0 := i.t2.c0
  have y1 := i.t2.c1
  have z0 := i.t3.c0
  have z1 := i.t3.c1
  obtain ⟨x, hxv⟩ : ∃ x : Int, x = Kn.iv nx xs := ⟨_, rfl⟩
  obtain ⟨y, hyv⟩ : ∃ y : Int, y = Kn.iv ny ys := ⟨_, rfl⟩
  obtain ⟨z, hzv⟩ : ∃ z : Int, z = Kn.iv nz zs := ⟨_, rfl⟩
  have X : Iv _ nx A ca xs x 10 := ⟨(hx.below i.bel).more i.bel.size, hxv.symm, hxl⟩
  have Y : Iv _ ny B cb ys y 10 := ⟨(hy.below i.bel).more i.bel.size, hyv.symm, hyl⟩
  have Z : Iv _ nz C cc zs z 10 := ⟨(hz.below i.bel).more i.bel.size, hzv.symm, hzl⟩
  clear hxv hyv hzv
  obtain ⟨K, hK⟩ : ∃ K : Int, Hid (cmpI x y = K) := ⟨_, Lib.hid rfl⟩
  obtain ⟨L, hL⟩ : ∃ L : Int, Hid (cmpI y x = L) := ⟨_, Lib.hid rfl⟩
  obtain ⟨M, hM⟩ : ∃ M : Int, Hid (cmpI y z = M) := ⟨_, Lib.hid rfl⟩
  obtain ⟨P, hP⟩ : ∃ P : Int, Hid (cmpI x z = P) := ⟨_, Lib.hid rfl⟩
  obtain ⟨E, hE⟩ : ∃ E : Bool, Hid (decide (x = y) = E) := ⟨_, Lib.hid rfl⟩
  have kb : -1 ≤ K ∧ K ≤ 1 := by rw [← hK.out]; unfold cmpI; (repeat' split) <;> omega
  have lb : -1 ≤ L ∧ L ≤ 1 := by rw [← hL.out]; unfold cmpI; (repeat' split) <;> omega
  have kl : Hid (K = -L) := Lib.hid (by rw [← hK.out, ← hL.out]; unfold cmpI; (repeat' split) <;> omega)
  have ke : Hid ((K == 0) = E) := Lib.hid (by rw [← hK.out, ← hE.out, Bool.eq_iff_iff, beq_iff_eq, decide_eq_true_eq]; unfold cmpI; (repeat' split) <;> omega)
  have kmp : Hid (K ≤ 0 → M ≤ 0 → P ≤ 0) := Lib.hid (by rw [← hK.out, ← hM.out, ← hP.out]; unfold cmpI; (repeat' split) <;> omega)
  have T1 : Hid (∀ W, Iv W nx A ca xs x 10 → Iv W ny B cb ys y 10 → Calls Tryd.prog 40 #[.agg #[.bool nx, .slice A xs.length ca], .agg #[.bool ny, .slice B ys.length cb]] W fun e w' => e = .returned (.int .i64 K) ∧ Below W.heap.size W w') := Lib.hid (fun W h1 h2 => by rw [← hK.out]; exact gcmp h1 h2 (by decide) (by decide))
  have T2 : Hid (∀ W, Iv W nx A ca xs x 10 → Iv W ny B cb ys y 10 → Calls Tryd.prog 40 #[.agg #[.bool ny, .slice B ys.length cb], .agg #[.bool nx, .slice A xs.length ca]] W fun e w' => e = .returned (.int .i64 L) ∧ Below W.heap.size W w') := Lib.hid (fun W h1 h2 => by rw [← hL.out]; exact gcmp h2 h1 (by decide) (by decide))
  have T3 : Hid (∀ W, Iv W nx A ca xs x 10 → Iv W ny B cb ys y 10 → Calls Tryd.prog 43 #[.agg #[.bool nx, .slice A xs.length ca], .agg #[.bool ny, .slice B ys.length cb]] W fun e w' => e = .returned (.int .i64 K) ∧ Below W.heap.size W w') := Lib.hid (fun W h1 h2 => by rw [← hK.out]; exact grcmp h1 h2 (by decide) (by decide))
  have T4 : Hid (∀ W p A c l, Iv W p A c l (x - y) 11 → Calls Tryd.prog 20 #[.agg #[.bool p, .slice A l.length c]] W fun e w' => e = .returned (.int .i64 K) ∧ Below W.heap.size W w') := Lib.hid (fun W p A c l h => by rw [← hK.out, cmpI_sub]; exact gsign h (by decide))
  have T5 : Hid (∀ W p A c l q B d m, Iv W p A c l (x + z) 11 → Iv W q B d m (y + z) 11 → Calls Tryd.prog 40 #[.agg #[.bool p, .slice A l.length c], .agg #[.bool q, .slice B m.length d]] W fun e w' => e = .returned (.int .i64 K) ∧ Below W.heap.size W w') := Lib.hid (fun W p A c l q B d m h1 h2 => by
    rw [← hK.out, show cmpI x y = cmpI (x + z) (y + z) by unfold cmpI; (repeat' split) <;> omega]; exact gcmp h1 h2 (by decide) (by decide))
  have T6 : Hid (∀ W p A c l q B d m, Cn W p A c l x 10 → Cn W q B d m y 10 → Calls Tryd.prog 16 #[.agg #[.bool p, .slice A l.length c], .agg #[.bool q, .slice B m.length d]] W fun e w' => e = .returned (.bool E) ∧ Below W.heap.size W w') := Lib.hid (fun W p A c l q B d m h1 h2 => by rw [← hE.out]; exact gsame h1 h2 (by decide) (by decide))
  have T7 : Hid (∀ W, Iv W ny B cb ys y 10 → Iv W nz C cc zs z 10 → Calls Tryd.prog 40 #[.agg #[.bool ny, .slice B ys.length cb], .agg #[.bool nz, .slice C zs.length cc]] W fun e w' => e = .returned (.int .i64 M) ∧ Below W.heap.size W w') := Lib.hid (fun W h1 h2 => by rw [← hM.out]; exact gcmp h1 h2 (by decide) (by decide))
  have T8 : Hid (∀ W, Iv W nx A ca xs x 10 → Iv W nz C cc zs z 10 → Calls Tryd.prog 40 #[.agg #[.bool nx, .slice A xs.length ca], .agg #[.bool nz, .slice C zs.length cc]] W fun e w' => e = .returned (.int .i64 P) ∧ Below W.heap.size W w') := Lib.hid (fun W h1 h2 => by rw [← hP.out]; exact gcmp h1 h2 (by decide) (by decide))
  have kk : (K != K) = false := by simp
  have kl1 : (K != -L) = false := by rw [kl.out]; simp
  have ke1 : ((K == 0) != E) = false := by rw [ke.out]; simp
  have ke2 : ((K == 0) == E) = true := by rw [ke.out]; simp
  have ke3 : (!(K == 0) == E) = false := by rw [ke.out]; cases E <;> rfl
  have ke4 : (!((K == 0) == E)) = false := by rw [ke.out]; simp
  clear hx hy hz hxl hyl hzl
  go_wp2_with fail
  refine (T1.out _ X Y).mono ?_
  rintro e w' ⟨rfl, hb⟩
  replace i := i.below hb
  replace X := X.below hb
  replace Y := Y.below hb
  replace Z := Z.below hb
  clear x0 x1 y0 y1 z0 z1
  clear hb
  have x0 := i.t1.c0
  have x1 := i.t1.c1
  have y0 := i.t2.c0
  have y1 := i.t2.c1
  have z0 := i.t3.c0
  have z1 := i.t3.c1
  go_wp2_with fail
  refine (gsub X Y (by decide) (by decide)).mono ?_
  rintro e w' ⟨p, D, d, l, rfl, S, hb⟩
  replace i := i.below hb
  replace X := X.below hb
  replace Y := Y.below hb
  replace Z := Z.below hb
  clear x0 x1 y0 y1 z0 z1
  clear hb
  have x0 := i.t1.c0
  have x1 := i.t1.c1
  have y0 := i.t2.c0
  have y1 := i.t2.c1
  have z0 := i.t3.c0
  have z1 := i.t3.c1
  go_wp2_with fail
  refine (T4.out _ _ _ _ _ S.iv).mono ?_
  rintro e w' ⟨rfl, hb⟩
  replace i := i.below hb
  replace X := X.below hb
  replace Y := Y.below hb
  replace Z := Z.below hb
  clear x0 x1 y0 y1 z0 z1
  clear hb
  have x0 := i.t1.c0
  have x1 := i.t1.c1
  have y0 := i.t2.c0
  have y1 := i.t2.c1
  have z0 := i.t3.c0
  have z1 := i.t3.c1
  go_wp2_with fail
  refine (T2.out _ X Y).mono ?_
  rintro e w' ⟨rfl, hb⟩
  replace i := i.below hb
  replace X := X.below hb
  replace Y := Y.below hb
  replace Z := Z.below hb
  clear x0 x1 y0 y1 z0 z1
  clear hb
  have x0 := i.t1.c0
  have x1 := i.t1.c1
  have y0 := i.t2.c0
  have y1 := i.t2.c1
  have z0 := i.t3.c0
  have z1 := i.t3.c1
  go_wp2_with fail
  refine (T3.out _ X Y).mono ?_
  rintro e w' ⟨rfl, hb⟩
  replace i := i.below hb
  replace X := X.below hb
  replace Y := Y.below hb
  replace Z := Z.below hb
  clear x0 x1 y0 y1 z0 z1
  clear hb
  have x0 := i.t1.c0
  have x1 := i.t1.c1
  have y0 := i.t2.c0
  have y1 := i.t2.c1
  have z0 := i.t3.c0
  have z1 := i.t3.c1
  go_wp2_with fail
  clear x0 x1 y0 y1 z0 z1
  replace i := i.drew
  replace X := X.drew
  replace Y := Y.drew
  replace Z := Z.drew
  go_region_held3 (fun w' => w'.cell? ⟨w.heap.size, 0, none⟩ = some (.bool nx) ∧ w'.cell? ⟨w.heap.size, 1, none⟩ = some (.slice A xs.length ca) ∧ w'.cell? ⟨w.heap.size + 1, 0, none⟩ = some (.bool ny) ∧ w'.cell? ⟨w.heap.size + 1, 1, none⟩ = some (.slice B ys.length cb) ∧ w'.cell? ⟨w.heap.size + 2, 0, none⟩ = some (.bool nz) ∧ w'.cell? ⟨w.heap.size + 2, 1, none⟩ = some (.slice C zs.length cc))
    (exact ⟨i.t1.c0, i.t1.c1, i.t2.c0, i.t2.c1, i.t3.c0, i.t3.c1⟩)
    (first
      | (go_at_call 32; (with_reducible refine (gadd X Z (by decide) (by decide)).mono ?_); rintro e w' ⟨p1, A1, c1, l1, rfl, S1, hb⟩; replace i := i.below hb; replace X := X.below hb; replace Y := Y.below hb; replace Z := Z.below hb; (try (replace S2 := S2.below hb)); (try (replace S3 := S3.below hb)); (try (replace S4 := S4.below hb)); clear hb)
      | (go_at_call 32; (with_reducible refine (gadd Y Z (by decide) (by decide)).mono ?_); rintro e w' ⟨p2, A2, c2, l2, rfl, S2, hb⟩; replace i := i.below hb; replace X := X.below hb; replace Y := Y.below hb; replace Z := Z.below hb; (try (replace S1 := S1.below hb)); (try (replace S3 := S3.below hb)); (try (replace S4 := S4.below hb)); clear hb)
      | (go_at_call 40; (with_reducible refine (T5.out _ _ _ _ _ _ _ _ _ S1.iv S2.iv).mono ?_); rintro e w' ⟨rfl, hb⟩; replace i := i.below hb; replace X := X.below hb; replace Y := Y.below hb; replace Z := Z.below hb; (try (replace S1 := S1.below hb)); (try (replace S2 := S2.below hb)); (try (replace S3 := S3.below hb)); (try (replace S4 := S4.below hb)); clear hb)
      | (go_at_call 15; (with_reducible refine (gclean X (by decide)).mono ?_); rintro e w' ⟨p3, A3_, c3, l3, rfl, S3, hb⟩; replace i := i.below hb; replace X := X.below hb; replace Y := Y.below hb; replace Z := Z.below hb; (try (replace S1 := S1.below hb)); (try (replace S2 := S2.below hb)); (try (replace S4 := S4.below hb)); clear hb)
      | (go_at_call 15; (with_reducible refine (gclean Y (by decide)).mono ?_); rintro e w' ⟨p4, A4, c4, l4, rfl, S4, hb⟩; replace i := i.below hb; replace X := X.below hb; replace Y := Y.below hb; replace Z := Z.below hb; (try (replace S1 := S1.below hb)); (try (replace S2 := S2.below hb)); (try (replace S3 := S3.below hb)); clear hb)
      | (go_at_call 16; (with_reducible refine (T6.out _ _ _ _ _ _ _ _ _ S3 S4).mono ?_); rintro e w' ⟨rfl, hb⟩; replace i := i.below hb; replace X := X.below hb; replace Y := Y.below hb; replace Z := Z.below hb; (try (replace S1 := S1.below hb)); (try (replace S2 := S2.below hb)); (try (replace S3 := S3.below hb)); (try (replace S4 := S4.below hb)); clear hb))
  all_goals
    have x0 := i.t1.c0
    have x1 := i.t1.c1
    have y0 := i.t2.c0
    have y1 := i.t2.c1
    have z0 := i.t3.c0
    have z1 := i.t3.c1
    by_cases hk0 : 0 < K
    · go_wp2_with fail
      go_ret
      exact ⟨rfl, i.bel⟩
    · have k0 : ¬ (0 < K) := hk0
      by_cases hm0 : 0 < M
      · go_wp2_with fail
        refine (T7.out _ Y Z).mono ?_
        rintro e w' ⟨rfl, hb⟩
        replace i := i.below hb
        clear x0 x1 y0 y1 z0 z1
        go_wp2_with fail
        go_ret
        exact ⟨rfl, i.bel⟩
      · have hp0 : P ≤ 0 := kmp.out (by omega) (by omega)
        have hp1 : ¬ (0 < P) := by omega
        go_wp2_with fail
        refine (T7.out _ Y Z).mono ?_
        rintro e w' ⟨rfl, hb⟩
        replace i := i.below hb
        replace X := X.below hb
        replace Z := Z.below hb
        clear x0 x1 y0 y1 z0 z1
        clear hb
        have x0 := i.t1.c0
        have x1 := i.t1.c1
        have y0 := i.t2.c0
        have y1 := i.t2.c1
        have z0 := i.t3.c0
        have z1 := i.t3.c1

        go_wp2_with fail
        refine (T8.out _ X Z).mono ?_
        rintro e w' ⟨rfl, hb⟩
        replace i := i.below hb
        clear x0 x1 y0 y1 z0 z1
        go_wp2_with fail
        go_ret
        exact ⟨by first | rfl | simp [hp0], i.bel⟩
end Go.Proofs.YtkhpjkjegbgkcaaDoor
