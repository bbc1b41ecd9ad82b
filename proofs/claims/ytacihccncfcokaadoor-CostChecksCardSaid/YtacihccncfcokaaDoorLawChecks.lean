/- Walk: the law CostChecks. -/
import Derived.Test.YtacihccncfcokaaDoorOf
import Derived.Test.YtacihccncfcokaaDoorOwn
import Derived.Test.YtacihccncfcokaaDoorKn
import Derived.Test.YtacihccncfcokaaDoorEn
namespace Go.Proofs.YtacihccncfcokaaDoor
open Go.RowKit Go.Sort
set_option linter.unusedVariables false

set_option maxRecDepth 100000 in
set_option maxHeartbeats 4000000 in
theorem checks_walk (c : C) (w : World) (hc : c.Wf) (hT : Tb w.heap.size w) : Calls Tryd.prog 3 #[c.val] w fun r w' => r = .returned (.bool true) ∧ Below w.heap.size w w' := by
  have X := EnW.start w c 23
  obtain ⟨zs, hzs⟩ : ∃ zs, Hid (c.list = zs) := ⟨_, Lib.hid rfl⟩
  have hzl : zs.length ≤ 1000000 := by rw [← hzs.out]; show 13 ≤ 1000000; decide
  have L1 := Lib.hid (show ∀ w : World, Calls Tryd.prog 14 #[c.val] w (NewZs zs w) from fun w => by rw [← hzs.out]; exact clist_any c w)
  have L2 := Lib.hid (show ∀ w : World, Calls Tryd.prog 15 #[c.val] w (NewZs zs w) from fun w => by rw [← hzs.out]; exact rlist_any c w)
  obtain ⟨k, hk⟩ : ∃ k, Hid (c.code = k) := ⟨_, Lib.hid rfl⟩
  clear hzs
  go_enter Tryd.func3, Tryd.ntmps3
  go_upto_region 1 with (fail)
  revert X
  generalize w.alloc (.cells #[.int .i64 c.assign, .int .i64 c.branch, .int .i64 c.loop, .int .i64 c.call, .int .i64 c.output, .int .i64 c.release, .int .i64 c.load, .int .i64 c.index, .int .i64 c.arith, .int .i64 c.multiply, .int .i64 c.divide, .int .i64 c.compare, .int .i64 c.logic] 23) = w1
  intro X
  go_wp2_with fail
  refine (known_ok _ (hT.at X.bel)).mono ?_
  rintro r w2 ⟨rfl, b2⟩
  replace X := X.below b2
  clear b2
  go_upto_region 3 with (fail)
  replace X := X.below (show Below w2.heap.size w2 w2.drew from (Below.refl _ _).drew)
  go_region_held3 (fun w' => w'.cell? ⟨w.heap.size, 0, none⟩ = some (.int .i64 c.assign) ∧ w'.cell? ⟨w.heap.size, 1, none⟩ = some (.int .i64 c.branch) ∧ w'.cell? ⟨w.heap.size, 2, none⟩ = some (.int .i64 c.loop) ∧ w'.cell? ⟨w.heap.size, 3, none⟩ = some (.int .i64 c.call) ∧ w'.cell? ⟨w.heap.size, 4, none⟩ = some (.int .i64 c.output) ∧ w'.cell? ⟨w.heap.size, 5, none⟩ = some (.int .i64 c.release) ∧ w'.cell? ⟨w.heap.size, 6, none⟩ = some (.int .i64 c.load) ∧ w'.cell? ⟨w.heap.size, 7, none⟩ = some (.int .i64 c.index) ∧ w'.cell? ⟨w.heap.size, 8, none⟩ = some (.int .i64 c.arith) ∧ w'.cell? ⟨w.heap.size, 9, none⟩ = some (.int .i64 c.multiply) ∧ w'.cell? ⟨w.heap.size, 10, none⟩ = some (.int .i64 c.divide) ∧ w'.cell? ⟨w.heap.size, 11, none⟩ = some (.int .i64 c.compare) ∧ w'.cell? ⟨w.heap.size, 12, none⟩ = some (.int .i64 c.logic))
    (first | exact c13 X.bc)
    (first
      | (go_at_call 9; refine (check_any c _).mono ?_; rintro r w3 ⟨rfl, b3⟩; replace X := X.below b3; rw [hk.out])
      | (go_at_call 10; refine (rcheck_any c _).mono ?_; rintro r w4 ⟨rfl, b4⟩; replace X := X.below b4; rw [hk.out])
      | (go_at_call 11; refine (default_any _).mono ?_; rintro r w5 ⟨rfl, b5⟩; replace X := X.below b5)
      | (go_at_call 12; refine (rdefault_any _).mono ?_; rintro r w6 ⟨rfl, b6⟩; replace X := X.below b6)
      | (go_at_call 14; refine (L1.out _).mono ?_; rintro r w7 ⟨A1, n1, rfl, hZ1, b7⟩; replace X := X.below b7)
      | (go_at_call 15; refine (L2.out _).mono ?_; rintro r w8 ⟨A2, n2, rfl, hZ2, b8⟩; replace X := X.below b8; replace hZ1 := hZ1.at b8)
      | (go_at_call 13; refine (seqz_any A1 A2 n1 n2 zs _ hZ1 hZ2 hzl).mono ?_; rintro r w9 ⟨rfl, b9⟩; replace X := X.below b9))
  have b10 := X.bel
  go_wp2_with fail
  go_ret
  exact ⟨rfl, b10⟩
end Go.Proofs.YtacihccncfcokaaDoor
