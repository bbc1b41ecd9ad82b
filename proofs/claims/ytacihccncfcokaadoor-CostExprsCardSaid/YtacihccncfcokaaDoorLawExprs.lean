/- Walk: the law CostExprs. -/
import Derived.Test.YtacihccncfcokaaDoorLf
namespace Go.Proofs.YtacihccncfcokaaDoor
open Go.RowKit Go.Sort
set_option linter.unusedVariables false

set_option maxRecDepth 100000 in
set_option maxHeartbeats 4000000 in
theorem exprs_walk (c : C) (e : E) (w : World) (hc : c.Wf) (hin : E.In w w.heap.size e) (hT : Tb w.heap.size w) : Calls Tryd.prog 4 #[c.val, e.val] w fun r w' => r = .returned (.bool true) ∧ Below w.heap.size w w' := by
  have X := CeW.start w c e 23 35
  go_enter Tryd.func4, Tryd.ntmps4
  go_upto_region 1 with (fail)
  revert X
  generalize (w.alloc (.cells #[.int .i64 c.assign, .int .i64 c.branch, .int .i64 c.loop, .int .i64 c.call, .int .i64 c.output, .int .i64 c.release, .int .i64 c.load, .int .i64 c.index, .int .i64 c.arith, .int .i64 c.multiply, .int .i64 c.divide, .int .i64 c.compare, .int .i64 c.logic] 23)).alloc (.cells #[.int .i64 e.op, .int .i64 e.n, .string e.nm, .slice e.ad e.ks.length e.cap] 35) = w1
  intro X
  go_wp2_with fail
  refine (known_ok _ (hT.at X.bel)).mono ?_
  rintro r w2 ⟨rfl, b2⟩
  replace X := X.below b2
  clear b2
  obtain ⟨he0, he1, he2, he3⟩ := e4 X.be
  go_wp2_with fail
  refine (few_any e _ (hin.at X.bel)).mono ?_
  rintro r w3 ⟨rfl, b3⟩
  replace X := X.below b3
  clear b3 he0 he1 he2 he3
  cases hf : fewB e 300 with
  | false =>
    have b4 := X.bel
    clear hf
    go_wp2_with fail
    go_ret
    exact ⟨rfl, b4⟩
  | true =>
    have HF := Lib.hid (few_fit hin hf).1
    clear hf
    obtain ⟨hc0, hc1, hc2, hc3, hc4, hc5, hc6, hc7, hc8, hc9, hc10, hc11, hc12⟩ := c13 X.bc
    obtain ⟨he0, he1, he2, he3⟩ := e4 X.be
    go_wp2_with fail
    refine (cexpr_any c e _ (HF.out.good.at X.bel) (hT.at X.bel)).mono ?_
    rintro r w4 ⟨rfl, b4⟩
    replace X := X.below b4
    clear b4 hc0 hc1 hc2 hc3 hc4 hc5 hc6 hc7 hc8 hc9 hc10 hc11 hc12 he0 he1 he2 he3
    obtain ⟨hc0, hc1, hc2, hc3, hc4, hc5, hc6, hc7, hc8, hc9, hc10, hc11, hc12⟩ := c13 X.bc
    obtain ⟨he0, he1, he2, he3⟩ := e4 X.be
    go_wp2_with fail
    refine (rexpr_any c e _ (HF.out.at X.bel)).mono ?_
    rintro r w5 ⟨rfl, b5⟩
    replace X := X.below b5
    clear b5 hc0 hc1 hc2 hc3 hc4 hc5 hc6 hc7 hc8 hc9 hc10 hc11 hc12 he0 he1 he2 he3
    obtain ⟨hc0, hc1, hc2, hc3, hc4, hc5, hc6, hc7, hc8, hc9, hc10, hc11, hc12⟩ := c13 X.bc
    obtain ⟨he0, he1, he2, he3⟩ := e4 X.be
    go_wp2_with fail
    refine (cplace2_any c e _ (HF.out.good.at X.bel) (hT.at X.bel)).mono ?_
    rintro r w6 ⟨rfl, b6⟩
    replace X := X.below b6
    clear b6 hc0 hc1 hc2 hc3 hc4 hc5 hc6 hc7 hc8 hc9 hc10 hc11 hc12 he0 he1 he2 he3
    obtain ⟨hc0, hc1, hc2, hc3, hc4, hc5, hc6, hc7, hc8, hc9, hc10, hc11, hc12⟩ := c13 X.bc
    obtain ⟨he0, he1, he2, he3⟩ := e4 X.be
    go_wp2_with fail
    refine (rplace_any c e _ (HF.out.at X.bel)).mono ?_
    rintro r w7 ⟨rfl, b7⟩
    have b8 := bTrans X.bel b7
    clear b7 X hc0 hc1 hc2 hc3 hc4 hc5 hc6 hc7 hc8 hc9 hc10 hc11 hc12 he0 he1 he2 he3
    go_wp2_with fail
    go_ret
    exact ⟨rfl, b8⟩
end Go.Proofs.YtacihccncfcokaaDoor
