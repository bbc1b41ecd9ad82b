/- Walks: CheckExpr of the reference. -/
import Derived.Test.YtkpomjdablopaabGreatDoorRd
namespace Go.Proofs.YtkpomjdablopaabGreatDoor
open Go.RowKit Go.Sort
set_option linter.unusedVariables false

/-- a tree that the reference can look at -/
structure Fit (w : World) (e : E) : Prop where
  hin : E.In w w.heap.size e
  big : e.any E.big = false
  nod : e.nodes ≤ 1000000
theorem Fit.at {w w' : World} {e : E} (h : Fit w e) (hb : Below w.heap.size w w') : Fit w' e := ⟨h.hin.at hb, h.big, h.nod⟩
theorem Fit.good {w : World} {e : E} (h : Fit w e) : Good w e := ⟨h.hin, h.big⟩
set_option maxRecDepth 100000 in
set_option maxHeartbeats 1000000 in
theorem xcheck_any (e : E) (w : World) (h : Fit w e) : Calls Tryz.prog 47 #[e.val] w fun r w' => r = .returned (.int .i64 (E.chk nmB e)) ∧ Below w.heap.size w w' := by
  have HV : Hid (vdC e.nodes e.dep e.rform (e.rnames nmB) e.rnumbers = E.chk nmB e) := Lib.hid (by rw [E.chk_rchk]; rfl)
  have X := Eb.start w e 27
  obtain ⟨z, hz⟩ : ∃ z, Hid (E.chk nmB e = z) := ⟨_, Lib.hid rfl⟩
  rw [hz.out]
  go_enter Tryz.func47, Tryz.ntmps47
  go_upto_region 1 with (fail)
  revert X
  generalize w.alloc (.cells #[.int .i64 e.op, .int .i64 e.n, .string e.nm, .slice e.ad e.ks.length e.cap] 27) = w1
  intro X
  have H : ∀ d os, Fit (grow (redrawn w1 d) os) e := fun d os => h.at (bTrans X.bel (below_regrown w1 d os))
  have Q1 := Lib.hid (show ∀ d os, Calls Tryz.prog 56 #[.agg #[.int .i64 0, .int .i64 0], e.val, .bool true] (grow (redrawn w1 d) os) fun r w'' => r = .returned (szV e.nodes e.dep) ∧ ∃ p : Regrown, w'' = grow (redrawn w1 p.d) p.os from
    fun d os => Calls.regrown_of (addExpr_any e _ (H d os).hin h.nod))
  have Q2 := Lib.hid (show ∀ d os, Calls Tryz.prog 57 #[e.val] (grow (redrawn w1 d) os) fun r w'' => r = .returned (.bool e.rform) ∧ ∃ p : Regrown, w'' = grow (redrawn w1 p.d) p.os from
    fun d os => Calls.regrown_of (rform_any e _ (H d os).hin))
  have Q3 := Lib.hid (show ∀ d os, Calls Tryz.prog 58 #[e.val] (grow (redrawn w1 d) os) fun r w'' => r = .returned (.bool (e.rnames nmB)) ∧ ∃ p : Regrown, w'' = grow (redrawn w1 p.d) p.os from
    fun d os => Calls.regrown_of (rnames_any e _ (H d os).hin h.big))
  have Q4 := Lib.hid (show ∀ d os, Calls Tryz.prog 59 #[e.val] (grow (redrawn w1 d) os) fun r w'' => r = .returned (.bool e.rnumbers) ∧ ∃ p : Regrown, w'' = grow (redrawn w1 p.d) p.os from
    fun d os => Calls.regrown_of (rnumbers_any e _ (H d os).hin))
  have Q5 := Lib.hid (show ∀ d os, Calls Tryz.prog 55 #[szV e.nodes e.dep, .bool e.rform, .bool (e.rnames nmB), .bool e.rnumbers] (grow (redrawn w1 d) os) fun r w'' => r = .returned (.int .i64 z) ∧ ∃ p : Regrown, w'' = grow (redrawn w1 p.d) p.os from
    fun d os => by rw [← hz.out, ← HV.out]; exact Calls.regrown_of (verdict_any _ _ _ _ _ _))
  clear H HV hz
  obtain ⟨he0, he1, he2, he3⟩ := e4 X.be
  have ke0 := cell_regrown he0
  have ke1 := cell_regrown he1
  have ke2 := cell_regrown he2
  have ke3 := cell_regrown he3
  clear he0 he1 he2 he3
  refine wp_region_quiet_below (by kernel_rfl) (by kernel_rfl) ?_
  repeat (quiet_step ((first
    | (go_at_call 56; exact Q1.out _ _)
    | (go_at_call 57; exact Q2.out _ _)
    | (go_at_call 58; exact Q3.out _ _)
    | (go_at_call 59; exact Q4.out _ _)
    | (go_at_call 55; exact Q5.out _ _))))
  refine wpQuiet_nil ?_
  intro _ hw'
  obtain ⟨⟨dq, osq⟩, hw''⟩ := hw'
  subst hw''
  go_wp2_with fail
  go_ret
  exact ⟨rfl, bTrans X.bel (below_regrown w1 dq osq)⟩
end Go.Proofs.YtkpomjdablopaabGreatDoor
