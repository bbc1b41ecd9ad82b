/- Walk: Enter of package cost. -/
import Derived.Test.YtacihccncfcokaaDoorEn
namespace Go.Proofs.YtacihccncfcokaaDoor
open Go.RowKit Go.Sort
set_option linter.unusedVariables false

set_option maxRecDepth 100000 in
set_option maxHeartbeats 4000000 in
theorem center_any (c : C) (l : List E) (zs : List Int) (A B : Option Addr) (ca cb : Nat) (w : World) (h : OkF w A l) (hz : Zs w w.heap.size B zs) (hl : l.length ≤ 10) (hzl : zs.length ≤ 20) (hT : Tb w.heap.size w) :
    Calls Tryd.prog 21 #[c.val, .slice A l.length ca, .slice B zs.length cb] w fun r w' => r = .returned (.tuple #[.int .i64 (enN c l zs), .int .i64 (enK c l zs)]) ∧ Below w.heap.size w w' := by
  obtain ⟨k, hk⟩ : ∃ k, Hid (ckC c l = k) := ⟨_, Lib.hid rfl⟩
  obtain ⟨K, hK⟩ : ∃ K, Hid (enK c l zs = K) := ⟨_, Lib.hid rfl⟩
  obtain ⟨N, hN⟩ : ∃ N, Hid (enN c l zs = N) := ⟨_, Lib.hid rfl⟩
  rw [hK.out, hN.out]
  have X := EnW.start w c 23
  go_enter Tryd.func21, Tryd.ntmps21
  go_upto_region 1 with (fail)
  revert X
  generalize w.alloc (.cells #[.int .i64 c.assign, .int .i64 c.branch, .int .i64 c.loop, .int .i64 c.call, .int .i64 c.output, .int .i64 c.release, .int .i64 c.load, .int .i64 c.index, .int .i64 c.arith, .int .i64 c.multiply, .int .i64 c.divide, .int .i64 c.compare, .int .i64 c.logic] 23) = w1
  intro X
  obtain ⟨hc0, hc1, hc2, hc3, hc4, hc5, hc6, hc7, hc8, hc9, hc10, hc11, hc12⟩ := c13 X.bc
  go_wp2_with fail
  refine (ccheck_any c l A ca _ (h.at X.bel).okl (hT.at X.bel)).mono ?_
  rintro r w2 ⟨rfl, b2⟩
  rw [hk.out]
  replace X := X.below b2
  clear b2 hc0 hc1 hc2 hc3 hc4 hc5 hc6 hc7 hc8 hc9 hc10 hc11 hc12
  obtain ⟨s, hs⟩ : ∃ s, Hid (scC zs = s) := ⟨_, Lib.hid rfl⟩
  have Z2 := hz.at X.bel
  by_cases h0 : k = 0
  case neg =>
    have q0 : (k == 0) = false := by simpa using h0
    have q9 : (k != 0) = true := by simpa using h0
    have HO : Hid (orL [k, s] = k) := Lib.hid (by unfold orL; rw [if_neg h0])
    have HR : Hid (0 = N ∧ k = K) := Lib.hid (by
      have e : enK c l zs = k := by unfold enK; rw [hk.out, if_neg h0]
      refine ⟨?_, by rw [← hK.out, e]⟩
      rw [← hN.out]; unfold enN; rw [e, if_neg h0])
    clear h0
    go_wp2_with fail
    refine (scalars_any zs B cb _ Z2 (by omega)).mono ?_
    rintro r w3 ⟨rfl, rfl⟩
    rw [hs.out]
    go_wp2_with fail
    refine (or_any [k, s] (some ⟨_, 0, none⟩) 2 _ (Zs.two _ k s _) (len2 k s)).mono ?_
    rintro r w4 ⟨rfl, rfl⟩
    rw [HO.out]
    have b2 := (X.below (al1 w2 (.cells #[.int .i64 k, .int .i64 s] 25))).bel
    go_wp2_with fail
    go_ret2
    exact ⟨ret2 HR.out.1 HR.out.2, b2⟩
  case pos =>
  subst h0
  by_cases hlen : l.length = zs.length
  case neg =>
    have HR : Hid (0 = N ∧ 2 = K) := Lib.hid (by
      have e : enK c l zs = 2 := by unfold enK; rw [hk.out, if_pos rfl, if_neg hlen]
      refine ⟨?_, by rw [← hK.out, e]⟩
      rw [← hN.out]; unfold enN; rw [e]; rfl)
    have q1 : (zs.length != l.length) = true := by simp; omega
    have q2 : ((zs.length : Int) != (l.length : Int)) = true := by simp; omega
    have HO : Hid (orL [2, s] = 2) := Lib.hid (by unfold orL; rw [if_neg (by decide)])
    clear hlen
    go_wp2_with fail
    refine (scalars_any zs B cb _ Z2 (by omega)).mono ?_
    rintro r w3 ⟨rfl, rfl⟩
    rw [hs.out]
    go_wp2_with fail
    refine (or_any [2, s] (some ⟨_, 0, none⟩) 2 _ (Zs.two _ 2 s _) (len2 2 s)).mono ?_
    rintro r w4 ⟨rfl, rfl⟩
    rw [HO.out]
    have b2 := (X.below (al1 w2 (.cells #[.int .i64 2, .int .i64 s] 25))).bel
    go_wp2_with fail
    go_ret2
    exact ⟨ret2 HR.out.1 HR.out.2, b2⟩
  case pos =>
  have q1 : (zs.length != l.length) = false := by simp; omega
  have q2 : ((zs.length : Int) != (l.length : Int)) = false := by simp; omega
  have HL := Lib.hid hlen
  clear hlen
  have HO : Hid (orL [0, s] = s) := Lib.hid (by unfold orL orL orL; rw [if_pos rfl]; split <;> simp_all)
  go_wp2_with fail
  refine (scalars_any zs B cb _ Z2 (by omega)).mono ?_
  rintro r w3 ⟨rfl, rfl⟩
  rw [hs.out]
  go_wp2_with fail
  refine (or_any [0, s] (some ⟨_, 0, none⟩) 2 _ (Zs.two _ 0 s _) (len2 0 s)).mono ?_
  rintro r w4 ⟨rfl, rfl⟩
  rw [HO.out]
  replace X := X.below (al1 w2 (.cells #[.int .i64 0, .int .i64 s] 25))
  have b2 := X.bel
  revert X b2
  generalize w2.alloc (.cells #[.int .i64 0, .int .i64 s] 25) = w5
  intro X b2
  by_cases hs0 : s = 0
  case neg =>
    have q3 : (s != 0) = true := by simpa using hs0
    have HR : Hid (0 = N ∧ s = K) := Lib.hid (by
      have e : enK c l zs = s := by unfold enK; rw [hk.out, if_pos rfl, if_pos HL.out, hs.out]
      refine ⟨?_, by rw [← hK.out, e]⟩
      rw [← hN.out]; unfold enN; rw [e, if_neg hs0])
    clear hs0
    go_wp2_with fail
    go_ret2
    exact ⟨ret2 HR.out.1 HR.out.2, b2⟩
  case pos =>
  subst hs0
  have HC := Lib.hid (ckC_ok hk.out)
  have HR : Hid (c.call + enS c l zs = N ∧ 0 = K) := Lib.hid (by
    have e : enK c l zs = 0 := by unfold enK; rw [hk.out, if_pos rfl, if_pos HL.out, hs.out]
    refine ⟨?_, by rw [← hK.out, e]⟩
    rw [← hN.out]; unfold enN; rw [if_pos e])
  have hcall := C.ok_get HC.out (x := c.call) (by simp [C.list])
  have hc3 : w5.cell? ⟨w.heap.size, 3, none⟩ = some (.int .i64 c.call) := X.bc.c 3 rfl
  clear b2 hK hN HO Z2
  go_wp2_with fail
  go_loopw [9, 36] (fun nv iv wr => ∃ (i : Nat) (tot : Int), i ≤ l.length ∧ iv = .int .i64 i ∧ nv = .int .i64 tot ∧ Hid (tot = c.call + enS c (l.take i) (zs.take i)) ∧ 0 ≤ tot ∧ tot ≤ 100 + 100003200 * (i : Int) ∧ EnW w wr c) (fun _ iv _ => l.length - (intOf iv).toNat)
  case atStart => exact ⟨0, c.call, Nat.zero_le _, rfl, rfl, Lib.hid (by simp [enS]), hcall.1, by omega, X⟩
  case round =>
    clear X hc3 hcall q1 q2
    obtain ⟨i, tot, hi, rfl, rfl, ht, ht1, ht2, Y⟩ := hrel
    by_cases hlt : i < l.length
    · obtain ⟨ab, off, k, rfl, hab, d0, d1, d2, d3, his, hkin⟩ := (h.li.below Y.bel).at_ hlt
      have hlt2 : i < zs.length := by have := HL.out; omega
      obtain ⟨zb, zoff, z, rfl, hzb, g0, hzz⟩ := (hz.below Y.bel).at_ hlt2
      have HF := Lib.hid (h.fitAt Y.bel his hkin)
      obtain ⟨m, s, t, u, R⟩ := EnR.mk' HC.out HL.out HF.out.nod hs.out his hzz.out ht.out
      have hw1 : IntKind.i64.wrap (c.assign * z) = m := by rw [R.mul]; exact IntWalk.i64_in _ (by have := R.bm; omega)
      have hw2 : IntKind.i64.wrap (s + m) = t := by rw [R.one]; exact IntWalk.i64_in _ (by rw [← R.one]; have := R.bs; have := R.bm; omega)
      have hw3 : IntKind.i64.wrap (tot + t) = u := by
        rw [← R.all]
        exact IntWalk.i64_in _ (by rw [← R.one]; have := R.bs; have := R.bm; omega)
      have hub : 0 ≤ u ∧ u ≤ 100 + 100003200 * ((i : Int) + 1) := by rw [← R.all, ← R.one]; have := R.bs; have := R.bm; omega
      have HU := Lib.hid R.nxt
      have HS := Lib.hid R.sum
      clear R
      have Y3 := Y.below (al1 wr (.cells k.box 35))
      have BE := Blk.new_ wr k.box 35
      have g1 : (wr.alloc (.cells k.box 35)).cell? ⟨zb, zoff + i, none⟩ = some (.int .i64 z) := ((al1 wr (.cells k.box 35)).cell (p := ⟨zb, zoff + i, none⟩) (by have := Y.bel.size; show zb < wr.heap.size; omega)).trans g0
      have HF3 := Lib.hid (HF.out.at (al1 wr (.cells k.box 35)))
      clear hkin hz h hk
      go_upto_region 11 with (fail)
      revert Y3 BE g1 HF3
      generalize wr.alloc (.cells #[.int .i64 k.op, .int .i64 k.n, .string k.nm, .slice k.ad k.ks.length k.cap] 35) = w6
      intro Y3 BE g1 HF3
      have Q1 := Lib.hid (show ∀ d os, Calls Tryd.prog 31 #[c.val, k.val] (grow (redrawn w6 d) os) fun r w'' => r = .returned (.int .i64 s) ∧ ∃ p : Regrown, w'' = grow (redrawn w6 p.d) p.os from
        fun d os => Calls.regrown_of (by rw [← HS.out]; exact exprCost_any c HC.out k _ (HF3.out.hin.at (below_regrown w6 d os)) HF.out.nod))
      obtain ⟨hc0, hc1, hc2, hc3, hc4, hc5, hc6, hc7, hc8, hc9, hc10, hc11, hc12⟩ := c13 Y3.bc
      obtain ⟨d0', d1', d2', d3'⟩ := e4 BE
      have kc0 := cell_regrown hc0
      have kc1 := cell_regrown hc1
      have kc2 := cell_regrown hc2
      have kc3 := cell_regrown hc3
      have kc4 := cell_regrown hc4
      have kc5 := cell_regrown hc5
      have kc6 := cell_regrown hc6
      have kc7 := cell_regrown hc7
      have kc8 := cell_regrown hc8
      have kc9 := cell_regrown hc9
      have kc10 := cell_regrown hc10
      have kc11 := cell_regrown hc11
      have kc12 := cell_regrown hc12
      have kg0 := cell_regrown g1
      have kd0 := cell_regrown d0'
      have kd1 := cell_regrown d1'
      have kd2 := cell_regrown d2'
      have kd3 := cell_regrown d3'
      clear hc0 hc1 hc2 hc3 hc4 hc5 hc6 hc7 hc8 hc9 hc10 hc11 hc12 d0 d1 d2 d3 g0 d0' d1' d2' d3' g1
      refine wp_region_quiet_below (by kernel_rfl) (by kernel_rfl) ?_
      repeat (quiet_step ((go_at_call 31; exact Q1.out _ _)))
      refine wpQuiet_nil ?_
      intro _ hw'
      obtain ⟨⟨dq, osq⟩, hw''⟩ := hw'
      subst hw''
      have Y2 := Y3.below (below_regrown w6 dq osq)
      go_wp2_with fail
      go_roundw
      case rel => exact ⟨i + 1, u, by omega, by go_num, rfl, HU, hub.1, by omega, Y2⟩
      case measure => simp [intOf]; omega
    · obtain rfl : i = l.length := by omega
      have HT : Hid (tot = N) := Lib.hid (by rw [ht.out, List.take_length, HL.out, List.take_length]; exact HR.out.1)
      have b3 := Y.bel
      go_wp2_with fail
      go_ret2
      exact ⟨ret2 HT.out HR.out.2, b3⟩
end Go.Proofs.YtacihccncfcokaaDoor
