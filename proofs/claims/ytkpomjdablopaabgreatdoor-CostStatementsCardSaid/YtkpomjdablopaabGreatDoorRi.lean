/- Walks: Expr, Place of the reference of package cost. -/
import Derived.Test.YtkpomjdablopaabGreatDoorRh
namespace Go.Proofs.YtkpomjdablopaabGreatDoor
open Go.RowKit Go.Sort
set_option linter.unusedVariables false

theorem raC_val (c : C) (e : E) : raC c [] [e] = ckC c [e] := by
  rw [ckC1]
  unfold raC
  cases c.ok with
  | false => rfl
  | true =>
    simp only [List.map_nil, List.map_cons, orL, if_true, List.all_nil]
    split <;> simp_all
theorem raC_place (c : C) (e : E) : raC c [e] [] = plK c e := by
  unfold plK
  rw [ckC1]
  unfold raC
  cases c.ok with
  | false => rfl
  | true =>
    simp only [List.map_nil, List.map_cons, orL, if_true, List.all_cons, List.all_nil, Bool.and_true]
    unfold plC
    by_cases h : E.chk nmB e = 0
    · simp [h]
    · simp [h]
theorem zsum {c : C} {e : E} (h : c.ok = true) : 0 ≤ e.sum c.opC ∧ e.sum c.opC ≤ 100 * (e.nodes : Int) := C.sum_bd h e
set_option maxRecDepth 100000 in
set_option maxHeartbeats 1000000 in
theorem rexpr_any (c : C) (e : E) (w : World) (h : Fit w e) : Calls Tryz.prog 32 #[c.val, e.val] w fun r w' => r = .returned (.tuple #[.int .i64 (exN c e), .int .i64 (ckC c [e])]) ∧ Below w.heap.size w w' := by
  obtain ⟨z, hz⟩ : ∃ z, Hid (ckC c [e] = z) := ⟨_, Lib.hid rfl⟩
  have HA := Lib.hid ((raC_val c e).trans hz.out)
  rw [hz.out]
  have X := CeW.start w c e 23 27
  go_enter Tryz.func32, Tryz.ntmps32
  go_upto_region 1 with (fail)
  revert X
  generalize (w.alloc (.cells #[.int .i64 c.assign, .int .i64 c.branch, .int .i64 c.loop, .int .i64 c.call, .int .i64 c.output, .int .i64 c.release, .int .i64 c.load, .int .i64 c.index, .int .i64 c.arith, .int .i64 c.multiply, .int .i64 c.divide, .int .i64 c.compare, .int .i64 c.logic] 23)).alloc (.cells #[.int .i64 e.op, .int .i64 e.n, .string e.nm, .slice e.ad e.ks.length e.cap] 27) = w1
  intro X
  obtain ⟨hc0, hc1, hc2, hc3, hc4, hc5, hc6, hc7, hc8, hc9, hc10, hc11, hc12⟩ := c13 X.bc
  obtain ⟨he0, he1, he2, he3⟩ := e4 X.be
  have b1 := X.bel
  go_wp2_with fail
  refine (rargs_any c [] [e] none (some ⟨_, 0, none⟩) 0 1 _ (OkF.nil _) (OkF.new1 _ e 27 (h.at b1))).mono ?_
  rintro r w2 ⟨rfl, b2⟩
  rw [HA.out]
  replace X := (X.below (al1 _ _)).below b2
  clear hc0 hc1 hc2 hc3 hc4 hc5 hc6 hc7 hc8 hc9 hc10 hc11 hc12 he0 he1 he2 he3 b1 b2
  have b2 := X.bel
  by_cases h0 : z = 0
  · subst h0
    obtain ⟨ho, hk⟩ := ckC_zero hz.out
    have HR : Hid (exN c e = e.sum c.opC) := Lib.hid (by unfold exN; rw [if_pos hz.out])
    have hin2 := h.hin.at X.bel
    have hnod := h.nod
    obtain ⟨hc0, hc1, hc2, hc3, hc4, hc5, hc6, hc7, hc8, hc9, hc10, hc11, hc12⟩ := c13 X.bc
    obtain ⟨he0, he1, he2, he3⟩ := e4 X.be
    have HO := Lib.hid ho
    clear hk ho
    go_wp2_with fail
    refine (rsum_any c HO.out e _ hin2 hnod).mono ?_
    rintro r w3 ⟨rfl, b3⟩
    go_wp2_with fail
    go_ret2
    exact ⟨ret2 HR.out.symm rfl, bTrans b2 b3⟩
  · have hne : (z != 0) = true := by simpa using h0
    have HR : Hid (exN c e = 0) := Lib.hid (by unfold exN; rw [if_neg (by rw [hz.out]; exact h0)])
    clear h0
    go_wp2_with fail
    go_ret2
    exact ⟨ret2 HR.out.symm rfl, b2⟩
set_option maxRecDepth 100000 in
set_option maxHeartbeats 1000000 in
theorem rplace_any (c : C) (e : E) (w : World) (h : Fit w e) : Calls Tryz.prog 31 #[c.val, e.val] w fun r w' => r = .returned (.tuple #[.int .i64 (plV c e), .int .i64 (plK c e)]) ∧ Below w.heap.size w w' := by
  obtain ⟨z, hz⟩ : ∃ z, Hid (plK c e = z) := ⟨_, Lib.hid rfl⟩
  have HA := Lib.hid ((raC_place c e).trans hz.out)
  rw [hz.out]
  have X := CeW.start w c e 23 27
  go_enter Tryz.func31, Tryz.ntmps31
  go_upto_region 1 with (fail)
  revert X
  generalize (w.alloc (.cells #[.int .i64 c.assign, .int .i64 c.branch, .int .i64 c.loop, .int .i64 c.call, .int .i64 c.output, .int .i64 c.release, .int .i64 c.load, .int .i64 c.index, .int .i64 c.arith, .int .i64 c.multiply, .int .i64 c.divide, .int .i64 c.compare, .int .i64 c.logic] 23)).alloc (.cells #[.int .i64 e.op, .int .i64 e.n, .string e.nm, .slice e.ad e.ks.length e.cap] 27) = w1
  intro X
  obtain ⟨hc0, hc1, hc2, hc3, hc4, hc5, hc6, hc7, hc8, hc9, hc10, hc11, hc12⟩ := c13 X.bc
  obtain ⟨he0, he1, he2, he3⟩ := e4 X.be
  have b1 := X.bel
  go_wp2_with fail
  refine (rargs_any c [e] [] (some ⟨_, 0, none⟩) none 1 0 _ (OkF.new1 _ e 27 (h.at b1)) (OkF.nil _)).mono ?_
  rintro r w2 ⟨rfl, b2⟩
  rw [HA.out]
  replace X := (X.below (al1 _ _)).below b2
  clear hc0 hc1 hc2 hc3 hc4 hc5 hc6 hc7 hc8 hc9 hc10 hc11 hc12 he0 he1 he2 he3 b1 b2
  have b2 := X.bel
  by_cases h0 : z = 0
  · subst h0
    obtain ⟨q1, q2⟩ := orL_two (show orL [ckC c [e], plC e] = 0 from hz.out)
    obtain ⟨ho, hk⟩ := ckC_zero q1
    have HR : Hid (plV c e = plN c e) := Lib.hid (by unfold plV; rw [if_pos hz.out])
    have hnod := h.nod
    have h1 := C.sum_bd ho e
    have h2 := C.ok_get ho (x := c.load) (by simp [C.list])
    obtain ⟨d, hd⟩ : ∃ d, Hid (plN c e = d) := ⟨_, Lib.hid rfl⟩
    obtain ⟨s, hs⟩ : ∃ s, Hid (e.sum c.opC = s) := ⟨_, Lib.hid rfl⟩
    rw [hs.out] at h1
    have hw : IntKind.i64.wrap (s - c.load) = d := by rw [← hd.out, IntWalk.i64_in _ (by omega)]; unfold plN; rw [hs.out]
    rw [hd.out] at HR
    obtain ⟨hc0, hc1, hc2, hc3, hc4, hc5, hc6, hc7, hc8, hc9, hc10, hc11, hc12⟩ := c13 X.bc
    obtain ⟨he0, he1, he2, he3⟩ := e4 X.be
    have HO := Lib.hid ho
    clear hk ho q1 q2 h1 h2
    go_upto_region 4 with (fail)
    have kc0 := cell_regrown hc0
    have kc1 := cell_regrown hc1
    have kc2 := cell_regrown hc2
    have kc3 := cell_regrown hc3
    have kc4 := cell_regrown hc4
    have kc5 := cell_regrown hc5
    have kc6 := cell_regrown hc6
    have kc7 := cell_regrown hc7
    have kc8 := cell_regrown hc8
    have kc9 := cell_regrown hc9
    have kc10 := cell_regrown hc10
    have kc11 := cell_regrown hc11
    have kc12 := cell_regrown hc12
    have ke0 := cell_regrown he0
    have ke1 := cell_regrown he1
    have ke2 := cell_regrown he2
    have ke3 := cell_regrown he3
    clear hc0 hc1 hc2 hc3 hc4 hc5 hc6 hc7 hc8 hc9 hc10 hc11 hc12 he0 he1 he2 he3
    have Q1 := Lib.hid (show ∀ d os, Calls Tryz.prog 40 #[c.val, e.val] (grow (redrawn w2 d) os) fun r w'' => r = .returned (.int .i64 s) ∧ ∃ p : Regrown, w'' = grow (redrawn w2 p.d) p.os from
      fun d os => Calls.regrown_of (by rw [← hs.out]; exact rsum_any c HO.out e _ (h.hin.at (bTrans X.bel (below_regrown w2 d os))) hnod))
    refine wp_region_quiet_below (by kernel_rfl) (by kernel_rfl) ?_
    repeat (quiet_step ((go_at_call 40; exact Q1.out _ _)))
    refine wpQuiet_nil ?_
    intro _ hw'
    obtain ⟨⟨dq, osq⟩, hw''⟩ := hw'
    subst hw''
    go_wp2_with fail
    go_ret2
    exact ⟨ret2 HR.out.symm rfl, bTrans b2 (below_regrown w2 dq osq)⟩
  · have hne : (z != 0) = true := by simpa using h0
    have HR : Hid (plV c e = 0) := Lib.hid (by unfold plV; rw [if_neg (by rw [hz.out]; exact h0)])
    clear h0
    go_wp2_with fail
    go_ret2
    exact ⟨ret2 HR.out.symm rfl, b2⟩
end Go.Proofs.YtkpomjdablopaabGreatDoor
