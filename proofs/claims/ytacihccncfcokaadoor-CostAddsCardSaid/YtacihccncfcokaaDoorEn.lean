/- Walks: Enter of package cost and of its reference. -/
import Derived.Test.YtacihccncfcokaaDoorRi
namespace Go.Proofs.YtacihccncfcokaaDoor
open Go.RowKit Go.Sort
set_option linter.unusedVariables false

theorem raC_vals (c : C) (l : List E) : raC c [] l = ckC c l := by
  unfold raC ckC
  cases c.ok with
  | false => rfl
  | true =>
    simp only [List.map_nil, orL, if_true, List.all_nil]
    split <;> simp_all
theorem ckC_all {c : C} {l : List E} (h : ckC c l = 0) (hl : l ≠ [] ∨ c.ok = true) : c.ok = true := by
  unfold ckC at h
  cases hc : c.ok with
  | true => rfl
  | false => rw [hc] at h; simp at h
theorem ckC_ok {c : C} {l : List E} (h : ckC c l = 0) : c.ok = true := by
  unfold ckC at h
  cases hc : c.ok with
  | true => rfl
  | false => rw [hc] at h; simp at h
/-- the code of Enter -/
def enK (c : C) (l : List E) (zs : List Int) : Int := if ckC c l = 0 then (if l.length = zs.length then scC zs else 2) else ckC c l
/-- the costs of arguments -/
def enS (c : C) : List E → List Int → Int
  | e :: l, z :: zs => e.sum c.opC + c.assign * z + enS c l zs
  | _, _ => 0
/-- what Enter returns -/
def enN (c : C) (l : List E) (zs : List Int) : Int := if enK c l zs = 0 then c.call + enS c l zs else 0
theorem enS_snoc (c : C) : ∀ (l : List E) (zs : List Int) (e : E) (z : Int), l.length = zs.length → enS c (l ++ [e]) (zs ++ [z]) = enS c l zs + (e.sum c.opC + c.assign * z)
  | [], [], e, z, _ => by simp [enS]
  | a :: l, y :: zs, e, z, h => by
    rw [List.cons_append, List.cons_append]
    show _ + _ + enS c (l ++ [e]) (zs ++ [z]) = _
    rw [enS_snoc c l zs e z (by simpa using h)]
    show _ = _ + _ + enS c l zs + _
    omega
  | [], y :: zs, e, z, h => by simp at h
  | a :: l, [], e, z, h => by simp at h
theorem enS_take (c : C) {l : List E} {zs : List Int} {i : Nat} {e : E} {z : Int} (hl : l.length = zs.length) (he : E.Is l i e) (hz : ∃ h : i < zs.length, zs[i] = z) : enS c (l.take (i + 1)) (zs.take (i + 1)) = enS c (l.take i) (zs.take i) + (e.sum c.opC + c.assign * z) := by
  obtain ⟨h, rfl⟩ := hz
  rw [he.take, List.take_succ_eq_append_getElem h, enS_snoc c _ _ _ _ (by rw [List.length_take, List.length_take, hl])]
theorem scC_all {zs : List Int} (h : scC zs = 0) {i : Nat} {z : Int} (hz : ∃ h : i < zs.length, zs[i] = z) : 0 ≤ z ∧ z ≤ 32 := by
  unfold scC at h
  by_cases hk : (zs.all fun x => decide (0 ≤ x) && decide (x ≤ 32)) = true
  · obtain ⟨hi, rfl⟩ := hz
    have := List.all_eq_true.1 hk zs[i] (List.getElem_mem hi)
    simpa using this
  · rw [if_neg hk] at h; exact absurd h (by decide)
theorem mul_bd {a z : Int} (ha : 0 ≤ a ∧ a ≤ 100) (hz : 0 ≤ z ∧ z ≤ 32) : 0 ≤ a * z ∧ a * z ≤ 3200 := by
  refine ⟨Int.mul_nonneg ha.1 hz.1, ?_⟩
  have h1 : a * z ≤ 100 * z := Int.mul_le_mul_of_nonneg_right ha.2 hz.1
  omega
/-- the box of a model -/
structure EnW (w wr : World) (c : C) : Prop where
  bc : Blk wr w.heap.size c.box
  bel : Below w.heap.size w wr
theorem EnW.start (w : World) (c : C) (T : TypeId) : EnW w (w.alloc (.cells c.box T)) c := ⟨Blk.new_ _ _ _, al1 _ _⟩
theorem EnW.below {w wr w' : World} {c : C} (h : EnW w wr c) (hb : Below wr.heap.size wr w') : EnW w w' c := ⟨h.bc.below hb h.bc.lt, bTrans h.bel hb⟩
/-- what a round of Enter's loop needs -/
structure EnR (c : C) (l : List E) (zs : List Int) (i : Nat) (e : E) (z m s t u tot : Int) : Prop where
  sum : e.sum c.opC = s
  mul : c.assign * z = m
  one : s + m = t
  all : tot + t = u
  nxt : u = c.call + enS c (l.take (i + 1)) (zs.take (i + 1))
  bs : 0 ≤ s ∧ s ≤ 100000000
  bm : 0 ≤ m ∧ m ≤ 3200
theorem EnR.mk' {c : C} {l : List E} {zs : List Int} {i : Nat} {e : E} {z tot : Int} (hc : c.ok = true) (hl : l.length = zs.length) (hn : e.nodes ≤ 1000000) (hs : scC zs = 0) (he : E.Is l i e) (hz : ∃ h : i < zs.length, zs[i] = z) (ht : tot = c.call + enS c (l.take i) (zs.take i)) :
    ∃ m s t u, EnR c l zs i e z m s t u tot := by
  refine ⟨_, _, _, _, rfl, rfl, rfl, rfl, ?_, ?_, mul_bd (C.ok_get hc (by simp [C.list])) (scC_all hs hz)⟩
  · rw [enS_take c hl he hz, ht]; omega
  · have := C.sum_bd hc e; omega

set_option maxRecDepth 100000 in
set_option maxHeartbeats 4000000 in
theorem renter_any (c : C) (l : List E) (zs : List Int) (A B : Option Addr) (ca cb : Nat) (w : World) (h : OkF w A l) (hz : Zs w w.heap.size B zs) (hl : l.length ≤ 10) (hzl : zs.length ≤ 20) :
    Calls Tryd.prog 22 #[c.val, .slice A l.length ca, .slice B zs.length cb] w fun r w' => r = .returned (.tuple #[.int .i64 (enN c l zs), .int .i64 (enK c l zs)]) ∧ Below w.heap.size w w' := by
  obtain ⟨k, hk⟩ : ∃ k, Hid (ckC c l = k) := ⟨_, Lib.hid rfl⟩
  have HA := Lib.hid ((raC_vals c l).trans hk.out)
  obtain ⟨K, hK⟩ : ∃ K, Hid (enK c l zs = K) := ⟨_, Lib.hid rfl⟩
  obtain ⟨N, hN⟩ : ∃ N, Hid (enN c l zs = N) := ⟨_, Lib.hid rfl⟩
  rw [hK.out, hN.out]
  have X := EnW.start w c 23
  go_enter Tryd.func22, Tryd.ntmps22
  go_upto_region 1 with (fail)
  revert X
  generalize w.alloc (.cells #[.int .i64 c.assign, .int .i64 c.branch, .int .i64 c.loop, .int .i64 c.call, .int .i64 c.output, .int .i64 c.release, .int .i64 c.load, .int .i64 c.index, .int .i64 c.arith, .int .i64 c.multiply, .int .i64 c.divide, .int .i64 c.compare, .int .i64 c.logic] 23) = w1
  intro X
  obtain ⟨hc0, hc1, hc2, hc3, hc4, hc5, hc6, hc7, hc8, hc9, hc10, hc11, hc12⟩ := c13 X.bc
  go_wp2_with fail
  refine (rargs_any c [] l none A 0 ca _ (OkF.nil _) (h.at X.bel)).mono ?_
  rintro r w2 ⟨rfl, b2⟩
  rw [HA.out]
  replace X := X.below b2
  clear b2 hc0 hc1 hc2 hc3 hc4 hc5 hc6 hc7 hc8 hc9 hc10 hc11 hc12
  have b2 := X.bel
  by_cases h0 : k = 0
  case neg =>
    have q0 : (k != 0) = true := by simpa using h0
    have HR : Hid (0 = N ∧ k = K) := Lib.hid (by
      have e : enK c l zs = k := by unfold enK; rw [hk.out, if_neg h0]
      refine ⟨?_, by rw [← hK.out, e]⟩
      rw [← hN.out]; unfold enN; rw [e, if_neg h0])
    clear h0
    go_wp2_with fail
    go_ret2
    exact ⟨ret2 HR.out.1 HR.out.2, b2⟩
  case pos =>
  subst h0
  by_cases hlen : l.length = zs.length
  case neg =>
    have HR : Hid (0 = N ∧ 2 = K) := Lib.hid (by
      have e : enK c l zs = 2 := by unfold enK; rw [hk.out, if_pos rfl, if_neg hlen]
      refine ⟨?_, by rw [← hK.out, e]⟩
      rw [← hN.out]; unfold enN; rw [e]; rfl)
    have q1 : (l.length != zs.length) = true := by simpa using hlen
    have q2 : ((l.length : Int) != (zs.length : Int)) = true := by simp; omega
    clear hlen
    go_wp2_with fail
    go_ret2
    exact ⟨ret2 HR.out.1 HR.out.2, b2⟩
  case pos =>
  have q1 : (l.length != zs.length) = false := by simpa using hlen
  have q2 : ((l.length : Int) != (zs.length : Int)) = false := by simp; omega
  have HL := Lib.hid hlen
  clear hlen
  obtain ⟨s, hs⟩ : ∃ s, Hid (scC zs = s) := ⟨_, Lib.hid rfl⟩
  go_wp2_with fail
  refine (counts_any zs B cb _ (hz.at X.bel) (by omega)).mono ?_
  rintro r w3 ⟨rfl, rfl⟩
  rw [hs.out]
  by_cases hs0 : s = 0
  case neg =>
    have q3 : (s != 0) = true := by simpa using hs0
    have HR : Hid (0 = N ∧ s = K) := Lib.hid (by
      have e : enK c l zs = s := by unfold enK; rw [hk.out, if_pos rfl, if_pos HL.out, hs.out]
      refine ⟨?_, by rw [← hK.out, e]⟩
      rw [← hN.out]; unfold enN; rw [e, if_neg hs0])
    clear hs0
    go_wp2_with fail
    go_ret2
    exact ⟨ret2 HR.out.1 HR.out.2, b2⟩
  case pos =>
  subst hs0
  have HC := Lib.hid (ckC_ok hk.out)
  have HR : Hid (c.call + enS c l zs = N ∧ 0 = K) := Lib.hid (by
    have e : enK c l zs = 0 := by unfold enK; rw [hk.out, if_pos rfl, if_pos HL.out, hs.out]
    refine ⟨?_, by rw [← hK.out, e]⟩
    rw [← hN.out]; unfold enN; rw [if_pos e])
  have hcall := C.ok_get HC.out (x := c.call) (by simp [C.list])
  have hc3 : w2.cell? ⟨w.heap.size, 3, none⟩ = some (.int .i64 c.call) := X.bc.c 3 rfl
  clear b2 hK hN HA
  go_wp2_with fail
  go_loopw [9, 10] (fun nv iv wr => ∃ (i : Nat) (tot : Int), i ≤ l.length ∧ iv = .int .i64 i ∧ nv = .int .i64 tot ∧ Hid (tot = c.call + enS c (l.take i) (zs.take i)) ∧ 0 ≤ tot ∧ tot ≤ 100 + 100003200 * (i : Int) ∧ EnW w wr c) (fun _ iv _ => l.length - (intOf iv).toNat)
  case atStart => exact ⟨0, c.call, Nat.zero_le _, rfl, rfl, Lib.hid (by simp [enS]), hcall.1, by omega, X⟩
  case round =>
    clear X hc3 hcall q1 q2
    obtain ⟨i, tot, hi, rfl, rfl, ht, ht1, ht2, Y⟩ := hrel
    by_cases hlt : i < l.length
    · obtain ⟨ab, off, k, rfl, hab, d0, d1, d2, d3, his, hkin⟩ := (h.li.below Y.bel).at_ hlt
      have hlt2 : i < zs.length := by have := HL.out; omega
      obtain ⟨zb, zoff, z, rfl, hzb, g0, hzz⟩ := (hz.below Y.bel).at_ hlt2
      have HF := Lib.hid (h.fitAt Y.bel his hkin)
      obtain ⟨m, s, t, u, R⟩ := EnR.mk' HC.out HL.out HF.out.nod hs.out his hzz.out ht.out
      have hw1 : IntKind.i64.wrap (c.assign * z) = m := by rw [R.mul]; exact IntWalk.i64_in _ (by have := R.bm; omega)
      have hw2 : IntKind.i64.wrap (tot + s) = tot + s := IntWalk.i64_in _ (by have := R.bs; omega)
      have hw3 : IntKind.i64.wrap (tot + s + m) = u := by
        rw [← R.all, ← R.one, Int.add_assoc]
        exact IntWalk.i64_in _ (by have := R.bs; have := R.bm; omega)
      have hub : 0 ≤ u ∧ u ≤ 100 + 100003200 * ((i : Int) + 1) := by rw [← R.all, ← R.one]; have := R.bs; have := R.bm; omega
      have HU := Lib.hid R.nxt
      have HS := Lib.hid R.sum
      clear R
      have Q1 := Lib.hid (show ∀ d os, Calls Tryd.prog 33 #[c.val, k.val] (grow (redrawn wr d) os) fun r w'' => r = .returned (.int .i64 s) ∧ ∃ p : Regrown, w'' = grow (redrawn wr p.d) p.os from
        fun d os => Calls.regrown_of (by rw [← HS.out]; exact rsum_any c HC.out k _ (HF.out.hin.at (below_regrown wr d os)) HF.out.nod))
      obtain ⟨hc0, hc1, hc2, hc3, hc4, hc5, hc6, hc7, hc8, hc9, hc10, hc11, hc12⟩ := c13 Y.bc
      clear hkin hz h hk
      go_upto_region 13 with (fail)
      have kc0 := cell_regrown hc0
      have kc1 := cell_regrown hc1
      have kc2 := cell_regrown hc2
      have kc3 := cell_regrown hc3
      have kc4 := cell_regrown hc4
      have kc5 := cell_regrown hc5
      have kc6 := cell_regrown hc6
      have kc7 := cell_regrown hc7
      have kc8 := cell_regrown hc8
      have kc9 := cell_regrown hc9
      have kc10 := cell_regrown hc10
      have kc11 := cell_regrown hc11
      have kc12 := cell_regrown hc12
      have kg0 := cell_regrown g0
      have kd0 := cell_regrown d0
      have kd1 := cell_regrown d1
      have kd2 := cell_regrown d2
      have kd3 := cell_regrown d3
      clear hc0 hc1 hc2 hc3 hc4 hc5 hc6 hc7 hc8 hc9 hc10 hc11 hc12 d0 d1 d2 d3 g0
      refine wp_region_quiet_below (by kernel_rfl) (by kernel_rfl) ?_
      repeat (quiet_step ((go_at_call 33; exact Q1.out _ _)))
      refine wpQuiet_nil ?_
      intro _ hw'
      obtain ⟨⟨dq, osq⟩, hw''⟩ := hw'
      subst hw''
      have Y2 := Y.below (below_regrown wr dq osq)
      go_wp2_with fail
      go_roundw
      case rel => exact ⟨i + 1, u, by omega, by go_num, rfl, HU, hub.1, by omega, Y2⟩
      case measure => simp [intOf]; omega
    · obtain rfl : i = l.length := by omega
      have HT : Hid (tot = N) := Lib.hid (by rw [ht.out, List.take_length, HL.out, List.take_length]; exact HR.out.1)
      have b3 := Y.bel
      go_wp2_with fail
      go_ret2
      exact ⟨ret2 HT.out HR.out.2, b3⟩
end Go.Proofs.YtacihccncfcokaaDoor
