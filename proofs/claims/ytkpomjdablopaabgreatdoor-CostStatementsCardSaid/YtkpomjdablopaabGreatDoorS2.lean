/- Walks: Output, While, Leave, Release of package cost. -/
import Derived.Test.YtkpomjdablopaabGreatDoorSe
namespace Go.Proofs.YtkpomjdablopaabGreatDoor
open Go.RowKit Go.Sort
set_option linter.unusedVariables false

set_option maxRecDepth 100000 in
set_option maxHeartbeats 1000000 in
theorem coutput_any (c : C) (e : E) (w : World) (h : Good w e) (hT : Tb w.heap.size w) : Calls Tryz.prog 9 #[c.val, e.val] w fun r w' => r = .returned (.tuple #[.int .i64 (moN c.output c e), .int .i64 (ckC c [e])]) ∧ Below w.heap.size w w' := by
  have X := CeW.start w c e 23 27
  go_enter Tryz.func9, Tryz.ntmps9
  go_upto_region 1 with (fail)
  revert X
  generalize (w.alloc (.cells #[.int .i64 c.assign, .int .i64 c.branch, .int .i64 c.loop, .int .i64 c.call, .int .i64 c.output, .int .i64 c.release, .int .i64 c.load, .int .i64 c.index, .int .i64 c.arith, .int .i64 c.multiply, .int .i64 c.divide, .int .i64 c.compare, .int .i64 c.logic] 23)).alloc (.cells #[.int .i64 e.op, .int .i64 e.n, .string e.nm, .slice e.ad e.ks.length e.cap] 27) = w1
  intro X
  obtain ⟨hc0, hc1, hc2, hc3, hc4, hc5, hc6, hc7, hc8, hc9, hc10, hc11, hc12⟩ := c13 X.bc
  obtain ⟨he0, he1, he2, he3⟩ := e4 X.be
  go_wp2_with fail
  refine (more_any c.output c e _ (h.at X.bel) (hT.at X.bel) (fun hk => C.ok_get (ckC_zero hk).1 (by simp [C.list]))).mono ?_
  rintro r w2 ⟨rfl, b2⟩
  have b3 := bTrans X.bel b2
  clear b2 X
  clear hc0 hc1 hc2 hc3 hc4 hc5 hc6 hc7 hc8 hc9 hc10 hc11 hc12 he0 he1 he2 he3
  go_wp2_with fail
  go_ret2
  exact ⟨rfl, b3⟩
set_option maxRecDepth 100000 in
set_option maxHeartbeats 1000000 in
theorem cwhile_any (c : C) (e : E) (w : World) (h : Good w e) (hT : Tb w.heap.size w) : Calls Tryz.prog 11 #[c.val, e.val] w fun r w' => r = .returned (.tuple #[.int .i64 (moN c.loop c e), .int .i64 (ckC c [e])]) ∧ Below w.heap.size w w' := by
  have X := CeW.start w c e 23 27
  go_enter Tryz.func11, Tryz.ntmps11
  go_upto_region 1 with (fail)
  revert X
  generalize (w.alloc (.cells #[.int .i64 c.assign, .int .i64 c.branch, .int .i64 c.loop, .int .i64 c.call, .int .i64 c.output, .int .i64 c.release, .int .i64 c.load, .int .i64 c.index, .int .i64 c.arith, .int .i64 c.multiply, .int .i64 c.divide, .int .i64 c.compare, .int .i64 c.logic] 23)).alloc (.cells #[.int .i64 e.op, .int .i64 e.n, .string e.nm, .slice e.ad e.ks.length e.cap] 27) = w1
  intro X
  obtain ⟨hc0, hc1, hc2, hc3, hc4, hc5, hc6, hc7, hc8, hc9, hc10, hc11, hc12⟩ := c13 X.bc
  obtain ⟨he0, he1, he2, he3⟩ := e4 X.be
  go_wp2_with fail
  refine (more_any c.loop c e _ (h.at X.bel) (hT.at X.bel) (fun hk => C.ok_get (ckC_zero hk).1 (by simp [C.list]))).mono ?_
  rintro r w2 ⟨rfl, b2⟩
  have b3 := bTrans X.bel b2
  clear b2 X
  clear hc0 hc1 hc2 hc3 hc4 hc5 hc6 hc7 hc8 hc9 hc10 hc11 hc12 he0 he1 he2 he3
  go_wp2_with fail
  go_ret2
  exact ⟨rfl, b3⟩
set_option maxRecDepth 100000 in
set_option maxHeartbeats 1000000 in
theorem cleave_any (c : C) (p v : E) (s : Int) (w : World) (hp : Good w p) (hv : Good w v) (hT : Tb w.heap.size w) : Calls Tryz.prog 7 #[c.val, p.val, v.val, .int .i64 s] w fun r w' => r = .returned (.tuple #[.int .i64 (seN c p v s), .int .i64 (seK c p v s)]) ∧ Below w.heap.size w w' := by
  have X := SeW.start w c p v 23 27 27
  go_enter Tryz.func7, Tryz.ntmps7
  go_upto_region 1 with (fail)
  revert X
  generalize ((w.alloc (.cells #[.int .i64 c.assign, .int .i64 c.branch, .int .i64 c.loop, .int .i64 c.call, .int .i64 c.output, .int .i64 c.release, .int .i64 c.load, .int .i64 c.index, .int .i64 c.arith, .int .i64 c.multiply, .int .i64 c.divide, .int .i64 c.compare, .int .i64 c.logic] 23)).alloc (.cells #[.int .i64 p.op, .int .i64 p.n, .string p.nm, .slice p.ad p.ks.length p.cap] 27)).alloc (.cells #[.int .i64 v.op, .int .i64 v.n, .string v.nm, .slice v.ad v.ks.length v.cap] 27) = w1
  intro X
  obtain ⟨hc0, hc1, hc2, hc3, hc4, hc5, hc6, hc7, hc8, hc9, hc10, hc11, hc12⟩ := c13 X.bc
  obtain ⟨hp0, hp1, hp2, hp3⟩ := e4 X.bp
  obtain ⟨hv0, hv1, hv2, hv3⟩ := e4 X.bv
  go_wp2_with fail
  refine (cset_any c p v s _ (hp.at X.bel) (hv.at X.bel) (hT.at X.bel)).mono ?_
  rintro r w2 ⟨rfl, b2⟩
  have b3 := bTrans X.bel b2
  clear b2 X
  clear hc0 hc1 hc2 hc3 hc4 hc5 hc6 hc7 hc8 hc9 hc10 hc11 hc12 hp0 hp1 hp2 hp3 hv0 hv1 hv2 hv3
  go_wp2_with fail
  go_ret2
  exact ⟨rfl, b3⟩
/-- what a release costs -/
def relN (c : C) (e : E) : Int := if plK c e = 0 then c.release + c.assign + plV c e else 0
theorem plV_bd {c : C} {e : E} (h : plK c e = 0) : (-100 ≤ plV c e ∧ plV c e ≤ 102400) ∧ (0 ≤ c.release ∧ c.release ≤ 100) ∧ (0 ≤ c.assign ∧ c.assign ≤ 100) := by
  obtain ⟨q1, q2⟩ := orL_two (show orL [ckC c [e], plC e] = 0 from h)
  obtain ⟨hc, ho⟩ := ckC_zero q1
  have h1 := C.sum_bd hc e
  have h2 := C.ok_get hc (x := c.load) (by simp [C.list])
  have h3 := ho.nodes
  have e1 : plV c e = e.sum c.opC - c.load := by unfold plV; rw [if_pos h]; rfl
  exact ⟨by omega, C.ok_get hc (by simp [C.list]), C.ok_get hc (by simp [C.list])⟩
set_option maxRecDepth 100000 in
set_option maxHeartbeats 1000000 in
theorem crelease_any (c : C) (e : E) (w : World) (h : Good w e) (hT : Tb w.heap.size w) : Calls Tryz.prog 8 #[c.val, e.val] w fun r w' => r = .returned (.tuple #[.int .i64 (relN c e), .int .i64 (plK c e)]) ∧ Below w.heap.size w w' := by
  obtain ⟨k, hk⟩ : ∃ k, Hid (plK c e = k) := ⟨_, Lib.hid rfl⟩
  obtain ⟨x, hx⟩ : ∃ x, Hid (plV c e = x) := ⟨_, Lib.hid rfl⟩
  obtain ⟨m, hm⟩ : ∃ m, Hid (relN c e = m) := ⟨_, Lib.hid rfl⟩
  rw [hk.out, hm.out]
  have X := CeW.start w c e 23 27
  go_enter Tryz.func8, Tryz.ntmps8
  go_upto_region 1 with (fail)
  revert X
  generalize (w.alloc (.cells #[.int .i64 c.assign, .int .i64 c.branch, .int .i64 c.loop, .int .i64 c.call, .int .i64 c.output, .int .i64 c.release, .int .i64 c.load, .int .i64 c.index, .int .i64 c.arith, .int .i64 c.multiply, .int .i64 c.divide, .int .i64 c.compare, .int .i64 c.logic] 23)).alloc (.cells #[.int .i64 e.op, .int .i64 e.n, .string e.nm, .slice e.ad e.ks.length e.cap] 27) = w1
  intro X
  obtain ⟨hc0, hc1, hc2, hc3, hc4, hc5, hc6, hc7, hc8, hc9, hc10, hc11, hc12⟩ := c13 X.bc
  obtain ⟨he0, he1, he2, he3⟩ := e4 X.be
  go_wp2_with fail
  refine (cplace2_any c e _ (h.at X.bel) (hT.at X.bel)).mono ?_
  rintro r w2 ⟨rfl, b2⟩
  rw [hk.out, hx.out]
  replace X := X.below b2
  clear b2
  clear hc0 hc1 hc2 hc3 hc4 hc5 hc6 hc7 hc8 hc9 hc10 hc11 hc12 he0 he1 he2 he3
  have b3 := X.bel
  by_cases h0 : k = 0
  · subst h0
    obtain ⟨g1, g2, g3⟩ := plV_bd hk.out
    rw [hx.out] at g1
    have hw1 : IntKind.i64.wrap (c.release + c.assign) = c.release + c.assign := IntWalk.i64_in _ (by omega)
    have HM : Hid (c.release + c.assign + x = m) := Lib.hid (by rw [← hm.out, ← hx.out]; unfold relN; rw [if_pos hk.out])
    have hw2 : IntKind.i64.wrap (c.release + c.assign + x) = m := by rw [← HM.out]; exact IntWalk.i64_in _ (by omega)
    clear g1 g2 g3
    obtain ⟨hc0, hc1, hc2, hc3, hc4, hc5, hc6, hc7, hc8, hc9, hc10, hc11, hc12⟩ := c13 X.bc
    go_wp2_with fail
    go_ret2
    exact ⟨ret2 rfl rfl, b3⟩
  · have hne : (k != 0) = true := by simpa using h0
    have HM : Hid (0 = m) := Lib.hid (by rw [← hm.out]; unfold relN; rw [if_neg (by rw [hk.out]; exact h0)])
    clear h0
    go_wp2_with fail
    go_ret2
    exact ⟨ret2 HM.out rfl, b3⟩
end Go.Proofs.YtkpomjdablopaabGreatDoor
