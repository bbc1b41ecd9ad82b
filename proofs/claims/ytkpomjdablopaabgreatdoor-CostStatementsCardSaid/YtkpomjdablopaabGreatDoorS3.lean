/- Walks: Output, If, While, Release of the reference of package cost. -/
import Derived.Test.YtkpomjdablopaabGreatDoorS2
namespace Go.Proofs.YtkpomjdablopaabGreatDoor
open Go.RowKit Go.Sort
set_option linter.unusedVariables false

set_option maxRecDepth 100000 in
set_option maxHeartbeats 1000000 in
theorem routput_any (c : C) (e : E) (w : World) (h : Fit w e) : Calls Tryz.prog 15 #[c.val, e.val] w fun r w' => r = .returned (.tuple #[.int .i64 (moN c.output c e), .int .i64 (ckC c [e])]) ∧ Below w.heap.size w w' := by
  obtain ⟨k, hk⟩ : ∃ k, Hid (ckC c [e] = k) := ⟨_, Lib.hid rfl⟩
  obtain ⟨x, hx⟩ : ∃ x, Hid (exN c e = x) := ⟨_, Lib.hid rfl⟩
  obtain ⟨m, hm⟩ : ∃ m, Hid (moN c.output c e = m) := ⟨_, Lib.hid rfl⟩
  rw [hk.out, hm.out]
  have X := CeW.start w c e 23 27
  go_enter Tryz.func15, Tryz.ntmps15
  go_upto_region 1 with (fail)
  revert X
  generalize (w.alloc (.cells #[.int .i64 c.assign, .int .i64 c.branch, .int .i64 c.loop, .int .i64 c.call, .int .i64 c.output, .int .i64 c.release, .int .i64 c.load, .int .i64 c.index, .int .i64 c.arith, .int .i64 c.multiply, .int .i64 c.divide, .int .i64 c.compare, .int .i64 c.logic] 23)).alloc (.cells #[.int .i64 e.op, .int .i64 e.n, .string e.nm, .slice e.ad e.ks.length e.cap] 27) = w1
  intro X
  obtain ⟨hc0, hc1, hc2, hc3, hc4, hc5, hc6, hc7, hc8, hc9, hc10, hc11, hc12⟩ := c13 X.bc
  obtain ⟨he0, he1, he2, he3⟩ := e4 X.be
  go_wp2_with fail
  refine (rexpr_any c e _ (h.at X.bel)).mono ?_
  rintro r w2 ⟨rfl, b2⟩
  rw [hk.out, hx.out]
  replace X := X.below b2
  clear b2
  clear hc0 hc1 hc2 hc3 hc4 hc5 hc6 hc7 hc8 hc9 hc10 hc11 hc12 he0 he1 he2 he3
  have b3 := X.bel
  by_cases h0 : k = 0
  · subst h0
    have g1 := exN_bd hk.out
    rw [hx.out] at g1
    have g2 : 0 ≤ c.output ∧ c.output ≤ 100 := C.ok_get (ckC_zero hk.out).1 (by simp [C.list])
    have HM : Hid (c.output + x = m) := Lib.hid (by rw [← hm.out, ← hx.out]; unfold moN; rw [if_pos hk.out])
    have hw : IntKind.i64.wrap (c.output + x) = m := by rw [← HM.out]; exact IntWalk.i64_in _ (by omega)
    clear g1 g2
    obtain ⟨hc0, hc1, hc2, hc3, hc4, hc5, hc6, hc7, hc8, hc9, hc10, hc11, hc12⟩ := c13 X.bc
    go_wp2_with fail
    go_ret2
    exact ⟨ret2 rfl rfl, b3⟩
  · have hne : (k != 0) = true := by simpa using h0
    have HM : Hid (0 = m) := Lib.hid (by rw [← hm.out]; unfold moN; rw [if_neg (by rw [hk.out]; exact h0)])
    clear h0
    go_wp2_with fail
    go_ret2
    exact ⟨ret2 HM.out rfl, b3⟩
set_option maxRecDepth 100000 in
set_option maxHeartbeats 1000000 in
theorem rif_any (c : C) (e : E) (w : World) (h : Fit w e) : Calls Tryz.prog 16 #[c.val, e.val] w fun r w' => r = .returned (.tuple #[.int .i64 (moN c.branch c e), .int .i64 (ckC c [e])]) ∧ Below w.heap.size w w' := by
  obtain ⟨k, hk⟩ : ∃ k, Hid (ckC c [e] = k) := ⟨_, Lib.hid rfl⟩
  obtain ⟨x, hx⟩ : ∃ x, Hid (exN c e = x) := ⟨_, Lib.hid rfl⟩
  obtain ⟨m, hm⟩ : ∃ m, Hid (moN c.branch c e = m) := ⟨_, Lib.hid rfl⟩
  rw [hk.out, hm.out]
  have X := CeW.start w c e 23 27
  go_enter Tryz.func16, Tryz.ntmps16
  go_upto_region 1 with (fail)
  revert X
  generalize (w.alloc (.cells #[.int .i64 c.assign, .int .i64 c.branch, .int .i64 c.loop, .int .i64 c.call, .int .i64 c.output, .int .i64 c.release, .int .i64 c.load, .int .i64 c.index, .int .i64 c.arith, .int .i64 c.multiply, .int .i64 c.divide, .int .i64 c.compare, .int .i64 c.logic] 23)).alloc (.cells #[.int .i64 e.op, .int .i64 e.n, .string e.nm, .slice e.ad e.ks.length e.cap] 27) = w1
  intro X
  obtain ⟨hc0, hc1, hc2, hc3, hc4, hc5, hc6, hc7, hc8, hc9, hc10, hc11, hc12⟩ := c13 X.bc
  obtain ⟨he0, he1, he2, he3⟩ := e4 X.be
  go_wp2_with fail
  refine (rexpr_any c e _ (h.at X.bel)).mono ?_
  rintro r w2 ⟨rfl, b2⟩
  rw [hk.out, hx.out]
  replace X := X.below b2
  clear b2
  clear hc0 hc1 hc2 hc3 hc4 hc5 hc6 hc7 hc8 hc9 hc10 hc11 hc12 he0 he1 he2 he3
  have b3 := X.bel
  by_cases h0 : k = 0
  · subst h0
    have g1 := exN_bd hk.out
    rw [hx.out] at g1
    have g2 : 0 ≤ c.branch ∧ c.branch ≤ 100 := C.ok_get (ckC_zero hk.out).1 (by simp [C.list])
    have HM : Hid (c.branch + x = m) := Lib.hid (by rw [← hm.out, ← hx.out]; unfold moN; rw [if_pos hk.out])
    have hw : IntKind.i64.wrap (c.branch + x) = m := by rw [← HM.out]; exact IntWalk.i64_in _ (by omega)
    clear g1 g2
    obtain ⟨hc0, hc1, hc2, hc3, hc4, hc5, hc6, hc7, hc8, hc9, hc10, hc11, hc12⟩ := c13 X.bc
    go_wp2_with fail
    go_ret2
    exact ⟨ret2 rfl rfl, b3⟩
  · have hne : (k != 0) = true := by simpa using h0
    have HM : Hid (0 = m) := Lib.hid (by rw [← hm.out]; unfold moN; rw [if_neg (by rw [hk.out]; exact h0)])
    clear h0
    go_wp2_with fail
    go_ret2
    exact ⟨ret2 HM.out rfl, b3⟩
set_option maxRecDepth 100000 in
set_option maxHeartbeats 1000000 in
theorem rwhile_any (c : C) (e : E) (w : World) (h : Fit w e) : Calls Tryz.prog 17 #[c.val, e.val] w fun r w' => r = .returned (.tuple #[.int .i64 (moN c.loop c e), .int .i64 (ckC c [e])]) ∧ Below w.heap.size w w' := by
  obtain ⟨k, hk⟩ : ∃ k, Hid (ckC c [e] = k) := ⟨_, Lib.hid rfl⟩
  obtain ⟨x, hx⟩ : ∃ x, Hid (exN c e = x) := ⟨_, Lib.hid rfl⟩
  obtain ⟨m, hm⟩ : ∃ m, Hid (moN c.loop c e = m) := ⟨_, Lib.hid rfl⟩
  rw [hk.out, hm.out]
  have X := CeW.start w c e 23 27
  go_enter Tryz.func17, Tryz.ntmps17
  go_upto_region 1 with (fail)
  revert X
  generalize (w.alloc (.cells #[.int .i64 c.assign, .int .i64 c.branch, .int .i64 c.loop, .int .i64 c.call, .int .i64 c.output, .int .i64 c.release, .int .i64 c.load, .int .i64 c.index, .int .i64 c.arith, .int .i64 c.multiply, .int .i64 c.divide, .int .i64 c.compare, .int .i64 c.logic] 23)).alloc (.cells #[.int .i64 e.op, .int .i64 e.n, .string e.nm, .slice e.ad e.ks.length e.cap] 27) = w1
  intro X
  obtain ⟨hc0, hc1, hc2, hc3, hc4, hc5, hc6, hc7, hc8, hc9, hc10, hc11, hc12⟩ := c13 X.bc
  obtain ⟨he0, he1, he2, he3⟩ := e4 X.be
  go_wp2_with fail
  refine (rexpr_any c e _ (h.at X.bel)).mono ?_
  rintro r w2 ⟨rfl, b2⟩
  rw [hk.out, hx.out]
  replace X := X.below b2
  clear b2
  clear hc0 hc1 hc2 hc3 hc4 hc5 hc6 hc7 hc8 hc9 hc10 hc11 hc12 he0 he1 he2 he3
  have b3 := X.bel
  by_cases h0 : k = 0
  · subst h0
    have g1 := exN_bd hk.out
    rw [hx.out] at g1
    have g2 : 0 ≤ c.loop ∧ c.loop ≤ 100 := C.ok_get (ckC_zero hk.out).1 (by simp [C.list])
    have HM : Hid (c.loop + x = m) := Lib.hid (by rw [← hm.out, ← hx.out]; unfold moN; rw [if_pos hk.out])
    have hw : IntKind.i64.wrap (c.loop + x) = m := by rw [← HM.out]; exact IntWalk.i64_in _ (by omega)
    clear g1 g2
    obtain ⟨hc0, hc1, hc2, hc3, hc4, hc5, hc6, hc7, hc8, hc9, hc10, hc11, hc12⟩ := c13 X.bc
    go_wp2_with fail
    go_ret2
    exact ⟨ret2 rfl rfl, b3⟩
  · have hne : (k != 0) = true := by simpa using h0
    have HM : Hid (0 = m) := Lib.hid (by rw [← hm.out]; unfold moN; rw [if_neg (by rw [hk.out]; exact h0)])
    clear h0
    go_wp2_with fail
    go_ret2
    exact ⟨ret2 HM.out rfl, b3⟩
set_option maxRecDepth 100000 in
set_option maxHeartbeats 1000000 in
theorem rrelease_any (c : C) (e : E) (w : World) (h : Fit w e) : Calls Tryz.prog 14 #[c.val, e.val] w fun r w' => r = .returned (.tuple #[.int .i64 (relN c e), .int .i64 (plK c e)]) ∧ Below w.heap.size w w' := by
  obtain ⟨k, hk⟩ : ∃ k, Hid (plK c e = k) := ⟨_, Lib.hid rfl⟩
  obtain ⟨x, hx⟩ : ∃ x, Hid (plV c e = x) := ⟨_, Lib.hid rfl⟩
  obtain ⟨m, hm⟩ : ∃ m, Hid (relN c e = m) := ⟨_, Lib.hid rfl⟩
  rw [hk.out, hm.out]
  have X := CeW.start w c e 23 27
  go_enter Tryz.func14, Tryz.ntmps14
  go_upto_region 1 with (fail)
  revert X
  generalize (w.alloc (.cells #[.int .i64 c.assign, .int .i64 c.branch, .int .i64 c.loop, .int .i64 c.call, .int .i64 c.output, .int .i64 c.release, .int .i64 c.load, .int .i64 c.index, .int .i64 c.arith, .int .i64 c.multiply, .int .i64 c.divide, .int .i64 c.compare, .int .i64 c.logic] 23)).alloc (.cells #[.int .i64 e.op, .int .i64 e.n, .string e.nm, .slice e.ad e.ks.length e.cap] 27) = w1
  intro X
  obtain ⟨hc0, hc1, hc2, hc3, hc4, hc5, hc6, hc7, hc8, hc9, hc10, hc11, hc12⟩ := c13 X.bc
  obtain ⟨he0, he1, he2, he3⟩ := e4 X.be
  go_wp2_with fail
  refine (rplace_any c e _ (h.at X.bel)).mono ?_
  rintro r w2 ⟨rfl, b2⟩
  rw [hk.out, hx.out]
  replace X := X.below b2
  clear b2
  clear hc0 hc1 hc2 hc3 hc4 hc5 hc6 hc7 hc8 hc9 hc10 hc11 hc12 he0 he1 he2 he3
  have b3 := X.bel
  by_cases h0 : k = 0
  · subst h0
    obtain ⟨g1, g2, g3⟩ := plV_bd hk.out
    rw [hx.out] at g1
    have hw1 : IntKind.i64.wrap (c.release + c.assign) = c.release + c.assign := IntWalk.i64_in _ (by omega)
    have HM : Hid (c.release + c.assign + x = m) := Lib.hid (by rw [← hm.out, ← hx.out]; unfold relN; rw [if_pos hk.out])
    have hw2 : IntKind.i64.wrap (c.release + c.assign + x) = m := by rw [← HM.out]; exact IntWalk.i64_in _ (by omega)
    clear g1 g2 g3
    obtain ⟨hc0, hc1, hc2, hc3, hc4, hc5, hc6, hc7, hc8, hc9, hc10, hc11, hc12⟩ := c13 X.bc
    go_wp2_with fail
    go_ret2
    exact ⟨ret2 rfl rfl, b3⟩
  · have hne : (k != 0) = true := by simpa using h0
    have HM : Hid (0 = m) := Lib.hid (by rw [← hm.out]; unfold relN; rw [if_neg (by rw [hk.out]; exact h0)])
    clear h0
    go_wp2_with fail
    go_ret2
    exact ⟨ret2 HM.out rfl, b3⟩
end Go.Proofs.YtkpomjdablopaabGreatDoor
