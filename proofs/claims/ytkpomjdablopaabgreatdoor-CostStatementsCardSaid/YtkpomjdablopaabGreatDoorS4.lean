/- Walks: assigned, Set, Leave of the reference of package cost. -/
import Derived.Test.YtkpomjdablopaabGreatDoorSe
namespace Go.Proofs.YtkpomjdablopaabGreatDoor
open Go.RowKit Go.Sort
set_option linter.unusedVariables false

theorem seK_ref (c : C) (p v : E) (s : Int) : (if raC c [p] [v] = 0 then scC [s] else raC c [p] [v]) = seK c p v s := by
  unfold seK raC ckC plC
  simp only [List.map_cons, List.map_nil, List.all_cons, List.all_nil, Bool.and_true, orL]
  generalize E.chk nmB p = a
  generalize E.chk nmB v = b
  generalize scC [s] = t
  cases c.ok <;> cases p.place <;> by_cases ha : a = 0 <;> by_cases hb : b = 0 <;> by_cases ht : t = 0 <;> simp [ha, hb, ht]
theorem seK_zeroS {c : C} {p v : E} {s : Int} (h : seK c p v s = 0) : c.ok = true ∧ E.Ok nmB p ∧ E.Ok nmB v ∧ 0 ≤ s ∧ s ≤ 32 := by
  obtain ⟨e1, e2, e3⟩ := orL_three (show orL [ckC c [p, v], plC p, scC [s]] = 0 from h)
  obtain ⟨hc, hp, hv⟩ := ckC_two e1
  have hs := scC_all e3 (i := 0) (z := s) ⟨by simp, rfl⟩
  exact ⟨hc, hp, hv, hs.1, hs.2⟩
set_option maxRecDepth 100000 in
set_option maxHeartbeats 4000000 in
theorem rassigned_any (c : C) (p v : E) (s : Int) (w : World) (hp : Fit w p) (hv : Fit w v) : Calls Tryz.prog 30 #[c.val, p.val, v.val, .int .i64 s] w fun r w' => r = .returned (.tuple #[.int .i64 (seN c p v s), .int .i64 (seK c p v s)]) ∧ Below w.heap.size w w' := by
  obtain ⟨z, hz⟩ : ∃ z, Hid (seK c p v s = z) := ⟨_, Lib.hid rfl⟩
  obtain ⟨n, hn⟩ : ∃ n, Hid (seN c p v s = n) := ⟨_, Lib.hid rfl⟩
  obtain ⟨k, hk⟩ : ∃ k, Hid (raC c [p] [v] = k) := ⟨_, Lib.hid rfl⟩
  obtain ⟨t, ht⟩ : ∃ t, Hid (scC [s] = t) := ⟨_, Lib.hid rfl⟩
  have HZ : Hid ((if k = 0 then t else k) = z) := Lib.hid (by rw [← hz.out, ← hk.out, ← ht.out]; exact seK_ref c p v s)
  rw [hz.out, hn.out]
  have X := SeW.start w c p v 23 27 27
  go_enter Tryz.func30, Tryz.ntmps30
  go_upto_region 1 with (fail)
  revert X
  generalize ((w.alloc (.cells #[.int .i64 c.assign, .int .i64 c.branch, .int .i64 c.loop, .int .i64 c.call, .int .i64 c.output, .int .i64 c.release, .int .i64 c.load, .int .i64 c.index, .int .i64 c.arith, .int .i64 c.multiply, .int .i64 c.divide, .int .i64 c.compare, .int .i64 c.logic] 23)).alloc (.cells #[.int .i64 p.op, .int .i64 p.n, .string p.nm, .slice p.ad p.ks.length p.cap] 27)).alloc (.cells #[.int .i64 v.op, .int .i64 v.n, .string v.nm, .slice v.ad v.ks.length v.cap] 27) = w1
  intro X
  obtain ⟨hc0, hc1, hc2, hc3, hc4, hc5, hc6, hc7, hc8, hc9, hc10, hc11, hc12⟩ := c13 X.bc
  obtain ⟨hp0, hp1, hp2, hp3⟩ := e4 X.bp
  obtain ⟨hv0, hv1, hv2, hv3⟩ := e4 X.bv
  have b1 := X.bel
  have X2 := (X.below (al1 w1 (.cells p.box 27))).below (al1 _ (.cells v.box 27))
  have P1 := (OkF.new1 w1 p 27 (hp.at b1)).at (al1 _ (.cells v.box 27))
  have V1 := OkF.new1 (w1.alloc (.cells p.box 27)) v 27 (hv.at (bTrans b1 (al1 _ _)))
  rw [World.size_alloc] at V1
  have Q1 := Lib.hid (show Calls Tryz.prog 38 #[c.val, .slice (some ⟨w1.heap.size, 0, none⟩) 1 1, .slice (some ⟨w1.heap.size + 1, 0, none⟩) 1 1] ((w1.alloc (.cells #[.int .i64 p.op, .int .i64 p.n, .string p.nm, .slice p.ad p.ks.length p.cap] 27)).alloc (.cells #[.int .i64 v.op, .int .i64 v.n, .string v.nm, .slice v.ad v.ks.length v.cap] 27)) fun r w' => r = .returned (.int .i64 k) ∧ Below ((w1.alloc (.cells p.box 27)).alloc (.cells v.box 27)).heap.size ((w1.alloc (.cells p.box 27)).alloc (.cells v.box 27)) w' from by
    rw [← hk.out]; exact rargs_any c [p] [v] _ _ 1 1 _ P1 V1)
  clear P1 V1
  obtain ⟨g0, g1, g2, g3⟩ := e4 (X.below (al1 w1 (.cells p.box 27))).bv
  have hq0 : (w1.alloc (.cells #[.int .i64 p.op, .int .i64 p.n, .string p.nm, .slice p.ad p.ks.length p.cap] 27)).cell? ⟨w.heap.size + 2, 0, none⟩ = some (.int .i64 v.op) := g0
  have hq1 : (w1.alloc (.cells #[.int .i64 p.op, .int .i64 p.n, .string p.nm, .slice p.ad p.ks.length p.cap] 27)).cell? ⟨w.heap.size + 2, 1, none⟩ = some (.int .i64 v.n) := g1
  have hq2 : (w1.alloc (.cells #[.int .i64 p.op, .int .i64 p.n, .string p.nm, .slice p.ad p.ks.length p.cap] 27)).cell? ⟨w.heap.size + 2, 2, none⟩ = some (.string v.nm) := g2
  have hq3 : (w1.alloc (.cells #[.int .i64 p.op, .int .i64 p.n, .string p.nm, .slice p.ad p.ks.length p.cap] 27)).cell? ⟨w.heap.size + 2, 3, none⟩ = some (.slice v.ad v.ks.length v.cap) := g3
  clear g0 g1 g2 g3
  go_wp2_with fail
  with_reducible refine (Q1.out).mono ?_
  rintro r w2 ⟨rfl, b2⟩
  replace X := X2.below b2
  clear b2 X2 b1 Q1 hq0 hq1 hq2 hq3
  clear hc0 hc1 hc2 hc3 hc4 hc5 hc6 hc7 hc8 hc9 hc10 hc11 hc12 hp0 hp1 hp2 hp3 hv0 hv1 hv2 hv3
  have key : ∀ (W : World) (y : Int), z = y → SeW w W c p v → True := fun _ _ _ _ => trivial
  have HTL := Lib.hid (show ∀ (W : World), Calls Tryz.prog 39 #[.slice (some ⟨W.heap.size, 0, none⟩) 1 1] (W.alloc (.cells #[.int .i64 s] 3)) fun r w' => r = .returned (.int .i64 t) ∧ (W.alloc (.cells #[.int .i64 s] 3)) = w' from
    fun W => by rw [← ht.out]; exact counts_any [s] _ 1 _ (Zs.one W s 3) (len1 s))
  clear key
  by_cases h0 : k = 0
  · subst h0
    have hzt : t = z := by have h := HZ.out; rwa [if_pos rfl] at h
    subst hzt
    go_wp2_with fail
    refine (HTL.out _).mono ?_
    rintro r w3 ⟨rfl, rfl⟩
    replace X := X.below (al1 w2 (.cells #[.int .i64 s] 3))
    have b2 := X.bel
    by_cases ht0 : t = 0
    · subst ht0
      obtain ⟨hc, op_, ov, hs1, hs2⟩ := seK_zeroS hz.out
      have HC := Lib.hid hc
      have hm := mul_bd (C.ok_get hc (x := c.assign) (by simp [C.list])) ⟨hs1, hs2⟩
      have hd := C.sum_bd hc p
      have hx := C.sum_bd hc v
      have hld := C.ok_get hc (x := c.load) (by simp [C.list])
      have hnp := op_.nodes
      have hnv := ov.nodes
      obtain ⟨m, hmv⟩ : ∃ m, Hid (c.assign * s = m) := ⟨_, Lib.hid rfl⟩
      obtain ⟨d, hdv⟩ : ∃ d, Hid (p.sum c.opC = d) := ⟨_, Lib.hid rfl⟩
      obtain ⟨x, hxv⟩ : ∃ x, Hid (v.sum c.opC = x) := ⟨_, Lib.hid rfl⟩
      rw [hmv.out] at hm
      rw [hdv.out] at hd
      rw [hxv.out] at hx
      have HR : Hid (m + d - c.load + x = n) := Lib.hid (by rw [← hn.out, ← hmv.out, ← hdv.out, ← hxv.out]; unfold seN plN; rw [if_pos hz.out]; omega)
      have hw1 : IntKind.i64.wrap (c.assign * s) = m := by rw [hmv.out]; exact IntWalk.i64_in _ (by omega)
      have hw2 : IntKind.i64.wrap (m + d) = m + d := IntWalk.i64_in _ (by omega)
      have hw3 : IntKind.i64.wrap (m + d - c.load) = m + d - c.load := IntWalk.i64_in _ (by omega)
      have hw4 : IntKind.i64.wrap (m + d - c.load + x) = n := by rw [← HR.out]; exact IntWalk.i64_in _ (by omega)
      have hip := hp.hin
      have hiv := hv.hin
      have hnp2 := hp.nod
      have hnv2 := hv.nod
      clear hc op_ ov hs1 hs2 hm hd hx hld hnp hnv HZ HTL hp hv
      go_upto_region 6 with (fail)
      obtain ⟨hc0, hc1, hc2, hc3, hc4, hc5, hc6, hc7, hc8, hc9, hc10, hc11, hc12⟩ := c13 X.bc
      obtain ⟨hp0, hp1, hp2, hp3⟩ := e4 X.bp
      obtain ⟨hv0, hv1, hv2, hv3⟩ := e4 X.bv
      have kc0 := cell_regrown hc0
      have kc1 := cell_regrown hc1
      have kc2 := cell_regrown hc2
      have kc3 := cell_regrown hc3
      have kc4 := cell_regrown hc4
      have kc5 := cell_regrown hc5
      have kc6 := cell_regrown hc6
      have kc7 := cell_regrown hc7
      have kc8 := cell_regrown hc8
      have kc9 := cell_regrown hc9
      have kc10 := cell_regrown hc10
      have kc11 := cell_regrown hc11
      have kc12 := cell_regrown hc12
      have kp0 := cell_regrown hp0
      have kp1 := cell_regrown hp1
      have kp2 := cell_regrown hp2
      have kp3 := cell_regrown hp3
      have kv0 := cell_regrown hv0
      have kv1 := cell_regrown hv1
      have kv2 := cell_regrown hv2
      have kv3 := cell_regrown hv3
      clear hc0 hc1 hc2 hc3 hc4 hc5 hc6 hc7 hc8 hc9 hc10 hc11 hc12 hp0 hp1 hp2 hp3 hv0 hv1 hv2 hv3
      generalize hw9 : w2.alloc (.cells #[.int .i64 s] 3) = w9 at *
      have R1 := Lib.hid (show ∀ dd os, Calls Tryz.prog 40 #[c.val, p.val] (grow (redrawn w9 dd) os) fun r w'' => r = .returned (.int .i64 d) ∧ ∃ q : Regrown, w'' = grow (redrawn w9 q.d) q.os from
        fun dd os => Calls.regrown_of (by rw [← hdv.out]; exact rsum_any c HC.out p _ (hip.at (bTrans X.bel (below_regrown w9 dd os))) hnp2))
      have R2 := Lib.hid (show ∀ dd os, Calls Tryz.prog 40 #[c.val, v.val] (grow (redrawn w9 dd) os) fun r w'' => r = .returned (.int .i64 x) ∧ ∃ q : Regrown, w'' = grow (redrawn w9 q.d) q.os from
        fun dd os => Calls.regrown_of (by rw [← hxv.out]; exact rsum_any c HC.out v _ (hiv.at (bTrans X.bel (below_regrown w9 dd os))) hnv2))
      refine wp_region_quiet_below (by kernel_rfl) (by kernel_rfl) ?_
      repeat (quiet_step ((first | (go_at_call 40; with_reducible exact R1.out _ _) | (go_at_call 40; with_reducible exact R2.out _ _))))
      refine wpQuiet_nil ?_
      intro _ hw'
      obtain ⟨⟨dq, osq⟩, hw''⟩ := hw'
      subst hw''
      go_wp2_with fail
      go_ret2
      exact ⟨rfl, bTrans b2 (below_regrown w9 dq osq)⟩
    · have hne : (t != 0) = true := by simpa using ht0
      have HR : Hid (0 = n) := Lib.hid (by rw [← hn.out]; unfold seN; rw [if_neg (by rw [hz.out]; exact ht0)])
      clear ht0
      go_wp2_with fail
      go_ret2
      exact ⟨ret2 HR.out rfl, b2⟩
  · have hzk : k = z := by have h := HZ.out; rwa [if_neg h0] at h
    subst hzk
    have b2 := X.bel
    have hne : (k != 0) = true := by simpa using h0
    have heq : (k == 0) = false := by simpa using h0
    have HR : Hid (0 = n) := Lib.hid (by rw [← hn.out]; unfold seN; rw [if_neg (by rw [hz.out]; exact h0)])
    clear h0
    go_wp2_with fail
    go_ret2
    exact ⟨ret2 HR.out rfl, b2⟩
set_option maxRecDepth 100000 in
set_option maxHeartbeats 1000000 in
theorem rset_any (c : C) (p v : E) (s : Int) (w : World) (hp : Fit w p) (hv : Fit w v) : Calls Tryz.prog 12 #[c.val, p.val, v.val, .int .i64 s] w fun r w' => r = .returned (.tuple #[.int .i64 (seN c p v s), .int .i64 (seK c p v s)]) ∧ Below w.heap.size w w' := by
  have X := SeW.start w c p v 23 27 27
  go_enter Tryz.func12, Tryz.ntmps12
  go_upto_region 1 with (fail)
  revert X
  generalize ((w.alloc (.cells #[.int .i64 c.assign, .int .i64 c.branch, .int .i64 c.loop, .int .i64 c.call, .int .i64 c.output, .int .i64 c.release, .int .i64 c.load, .int .i64 c.index, .int .i64 c.arith, .int .i64 c.multiply, .int .i64 c.divide, .int .i64 c.compare, .int .i64 c.logic] 23)).alloc (.cells #[.int .i64 p.op, .int .i64 p.n, .string p.nm, .slice p.ad p.ks.length p.cap] 27)).alloc (.cells #[.int .i64 v.op, .int .i64 v.n, .string v.nm, .slice v.ad v.ks.length v.cap] 27) = w1
  intro X
  obtain ⟨hc0, hc1, hc2, hc3, hc4, hc5, hc6, hc7, hc8, hc9, hc10, hc11, hc12⟩ := c13 X.bc
  obtain ⟨hp0, hp1, hp2, hp3⟩ := e4 X.bp
  obtain ⟨hv0, hv1, hv2, hv3⟩ := e4 X.bv
  go_wp2_with fail
  refine (rassigned_any c p v s _ (hp.at X.bel) (hv.at X.bel)).mono ?_
  rintro r w2 ⟨rfl, b2⟩
  have b3 := bTrans X.bel b2
  clear b2 X
  clear hc0 hc1 hc2 hc3 hc4 hc5 hc6 hc7 hc8 hc9 hc10 hc11 hc12 hp0 hp1 hp2 hp3 hv0 hv1 hv2 hv3
  go_wp2_with fail
  go_ret2
  exact ⟨rfl, b3⟩
set_option maxRecDepth 100000 in
set_option maxHeartbeats 1000000 in
theorem rleave_any (c : C) (p v : E) (s : Int) (w : World) (hp : Fit w p) (hv : Fit w v) : Calls Tryz.prog 13 #[c.val, p.val, v.val, .int .i64 s] w fun r w' => r = .returned (.tuple #[.int .i64 (seN c p v s), .int .i64 (seK c p v s)]) ∧ Below w.heap.size w w' := by
  have X := SeW.start w c p v 23 27 27
  go_enter Tryz.func13, Tryz.ntmps13
  go_upto_region 1 with (fail)
  revert X
  generalize ((w.alloc (.cells #[.int .i64 c.assign, .int .i64 c.branch, .int .i64 c.loop, .int .i64 c.call, .int .i64 c.output, .int .i64 c.release, .int .i64 c.load, .int .i64 c.index, .int .i64 c.arith, .int .i64 c.multiply, .int .i64 c.divide, .int .i64 c.compare, .int .i64 c.logic] 23)).alloc (.cells #[.int .i64 p.op, .int .i64 p.n, .string p.nm, .slice p.ad p.ks.length p.cap] 27)).alloc (.cells #[.int .i64 v.op, .int .i64 v.n, .string v.nm, .slice v.ad v.ks.length v.cap] 27) = w1
  intro X
  obtain ⟨hc0, hc1, hc2, hc3, hc4, hc5, hc6, hc7, hc8, hc9, hc10, hc11, hc12⟩ := c13 X.bc
  obtain ⟨hp0, hp1, hp2, hp3⟩ := e4 X.bp
  obtain ⟨hv0, hv1, hv2, hv3⟩ := e4 X.bv
  go_wp2_with fail
  refine (rassigned_any c p v s _ (hp.at X.bel) (hv.at X.bel)).mono ?_
  rintro r w2 ⟨rfl, b2⟩
  have b3 := bTrans X.bel b2
  clear b2 X
  clear hc0 hc1 hc2 hc3 hc4 hc5 hc6 hc7 hc8 hc9 hc10 hc11 hc12 hp0 hp1 hp2 hp3 hv0 hv1 hv2 hv3
  go_wp2_with fail
  go_ret2
  exact ⟨rfl, b3⟩
end Go.Proofs.YtkpomjdablopaabGreatDoor
