/- Walk: the law TypesChecks. -/
import Derived.Test.YtlpnbcdnlbghdaaGreatDoorRe
import Derived.Test.YtlpnbcdnlbghdaaGreatDoorRi
import Derived.Test.YtlpnbcdnlbghdaaGreatDoorKw
namespace Go.Proofs.YtlpnbcdnlbghdaaGreatDoor
open Go.RowKit Go.Sort
set_option linter.unusedVariables false

set_option maxRecDepth 100000 in
set_option maxHeartbeats 4000000 in
theorem checks_walk (e f : G) (w : World) (he : G.In w w.heap.size e) (hf : G.In w w.heap.size f) (hT : Tb w.heap.size w) : Calls Tryz.prog 3 #[e.val, f.val] w fun r w' => r = .returned (.bool true) ∧ Below w.heap.size w w' := by
  have X := QW.start w e f 26 26
  have HT := Lib.hid (fun W (i : QW w W e f) => hT.at i.bel)
  have F1 := Lib.hid (fun W (i : QW w W e f) => few_any e W (he.at i.bel))
  have F2 := Lib.hid (fun W (i : QW w W e f) => few_any f W (hf.at i.bel))
  have C1 := Lib.hid (fun W (i : QW w W e f) => tcheck_any e W (he.at i.bel) (hT.at i.bel))
  have C2 := Lib.hid (fun (hn : e.nodes ≤ 1000000) W (i : QW w W e f) => rcheck_any e W (he.at i.bel) hn)
  have C3 := Lib.hid (fun W (i : QW w W e f) => tequal_any e f W (he.at i.bel) (hf.at i.bel))
  have C4 := Lib.hid (fun W (i : QW w W e f) => requal_any e f W (he.at i.bel) (hf.at i.bel))
  have C5 := Lib.hid (fun W (i : QW w W e f) => tequal_any e e W (he.at i.bel) (he.at i.bel))
  rw [G.eqB_refl e] at C5
  have HN := Lib.hid (@few_nodes e)
  obtain ⟨c, hc⟩ : ∃ c, Hid (G.chkT nmB e = c) := ⟨_, Lib.hid rfl⟩
  obtain ⟨q, hq⟩ : ∃ q, Hid (G.eqB e f = q) := ⟨_, Lib.hid rfl⟩
  rw [hc.out] at C1 C2
  rw [hq.out] at C3 C4
  clear he hf hT hc hq
  go_enter Tryz.func3, Tryz.ntmps3
  go_upto_region 1 with (fail)
  revert X
  generalize (w.alloc (.cells #[.int .i64 e.kd, .int .i64 e.lo, .int .i64 e.hi, .int .i64 e.sz, .string e.nm, .slice e.na e.ns.length e.nc, .slice e.ad e.ks.length e.cap] 26)).alloc (.cells #[.int .i64 f.kd, .int .i64 f.lo, .int .i64 f.hi, .int .i64 f.sz, .string f.nm, .slice f.na f.ns.length f.nc, .slice f.ad f.ks.length f.cap] 26) = w1
  intro X
  go_wp2_with fail
  refine (known_any _ (HT.out _ X)).mono ?_
  rintro r w2 ⟨rfl, b2⟩
  replace X := X.below b2
  clear b2 HT
  obtain ⟨k0, k1, k2, k3, k4, k5, k6⟩ := bx7 X.be
  go_wp2_with fail
  refine (F1.out _ X).mono ?_
  rintro r w3 ⟨rfl, b3⟩
  replace X := X.below b3
  clear b3 F1 k0 k1 k2 k3 k4 k5 k6
  obtain ⟨m0, m1, m2, m3, m4, m5, m6⟩ := bx7 X.bf
  cases h1 : fewB e with
  | false =>
    have b4 := X.bel
    clear h1
    go_wp2_with fail
    go_ret
    exact ⟨rfl, b4⟩
  | true =>
    have hn := Lib.hid (HN.out h1)
    have C2 := Lib.hid (C2.out hn.out)
    clear h1 HN
    go_wp2_with fail
    refine (F2.out _ X).mono ?_
    rintro r w4 ⟨rfl, b4⟩
    replace X := X.below b4
    clear b4 F2 m0 m1 m2 m3 m4 m5 m6
    cases h2 : fewB f with
    | false =>
      have b4 := X.bel
      clear h2
      go_wp2_with fail
      go_ret
      exact ⟨rfl, b4⟩
    | true =>
      clear h2
      have Z := Lib.hid (fun d os => X.below (below_regrown w4 d os))
      have Q1 := Lib.hid (show ∀ d os, Calls Tryz.prog 12 #[e.val] (grow (redrawn w4 d) os) fun r w'' => r = .returned (.int .i64 c) ∧ ∃ p : Regrown, w'' = grow (redrawn w4 p.d) p.os from
        fun d os => Calls.regrown_of (C1.out _ (Z.out d os)))
      have Q2 := Lib.hid (show ∀ d os, Calls Tryz.prog 13 #[e.val] (grow (redrawn w4 d) os) fun r w'' => r = .returned (.int .i64 c) ∧ ∃ p : Regrown, w'' = grow (redrawn w4 p.d) p.os from
        fun d os => Calls.regrown_of (C2.out _ (Z.out d os)))
      have Q3 := Lib.hid (show ∀ d os, Calls Tryz.prog 14 #[e.val, f.val] (grow (redrawn w4 d) os) fun r w'' => r = .returned (.bool q) ∧ ∃ p : Regrown, w'' = grow (redrawn w4 p.d) p.os from
        fun d os => Calls.regrown_of (C3.out _ (Z.out d os)))
      have Q4 := Lib.hid (show ∀ d os, Calls Tryz.prog 15 #[e.val, f.val] (grow (redrawn w4 d) os) fun r w'' => r = .returned (.bool q) ∧ ∃ p : Regrown, w'' = grow (redrawn w4 p.d) p.os from
        fun d os => Calls.regrown_of (C4.out _ (Z.out d os)))
      have Q5 := Lib.hid (show ∀ d os, Calls Tryz.prog 14 #[e.val, e.val] (grow (redrawn w4 d) os) fun r w'' => r = .returned (.bool true) ∧ ∃ p : Regrown, w'' = grow (redrawn w4 p.d) p.os from
        fun d os => Calls.regrown_of (C5.out _ (Z.out d os)))
      obtain ⟨k0, k1, k2, k3, k4, k5, k6⟩ := bx7 X.be
      obtain ⟨m0, m1, m2, m3, m4, m5, m6⟩ := bx7 X.bf
      have ke0 := cell_regrown k0
      have ke1 := cell_regrown k1
      have ke2 := cell_regrown k2
      have ke3 := cell_regrown k3
      have ke4 := cell_regrown k4
      have ke5 := cell_regrown k5
      have ke6 := cell_regrown k6
      have me0 := cell_regrown m0
      have me1 := cell_regrown m1
      have me2 := cell_regrown m2
      have me3 := cell_regrown m3
      have me4 := cell_regrown m4
      have me5 := cell_regrown m5
      have me6 := cell_regrown m6
      clear k0 k1 k2 k3 k4 k5 k6 m0 m1 m2 m3 m4 m5 m6 C1 C2 C3 C4 C5 Z hn
      go_upto_region 5 with (fail)
      refine wp_region_quiet_below (by kernel_rfl) (by kernel_rfl) ?_
      repeat (quiet_step ((first
        | (go_at_call 12; exact Q1.out _ _)
        | (go_at_call 13; exact Q2.out _ _)
        | (go_at_call 15; exact Q4.out _ _)
        | (go_at_call 14; with_reducible exact Q3.out _ _)
        | (go_at_call 14; with_reducible exact Q5.out _ _))))
      refine wpQuiet_nil ?_
      intro _ hw'
      obtain ⟨⟨dq, osq⟩, hw''⟩ := hw'
      subst hw''
      go_wp2_with fail
      go_ret
      exact ⟨rfl, bTrans X.bel (below_regrown w4 dq osq)⟩
end Go.Proofs.YtlpnbcdnlbghdaaGreatDoor
