/- Walks: Refines, and the law's refines. -/
import Derived.Test.YtdfkgkgglldokaaWa
namespace Go.Proofs.Ytdfkgkgglldokaa
open Go.RowKit Go.Maps
set_option linter.unusedVariables false

namespace Kp
theorem refB_no {p q : List Int} {k : Nat} (hk : k < p.length) (h : lab q (first (lab p) k) ≠ lab q k) : refB p q = false := by
  cases hr : refB p q with
  | false => rfl
  | true =>
    have hl := first_le (lab p) k
    exact absurd (refB_true.1 hr _ _ (by omega) hk (first_eq (lab p) k)) h
theorem refB_yes {p q : List Int} (h : ∀ k, k < p.length → lab q (first (lab p) k) = lab q k) : refB p q = true :=
  refB_true.2 fun i j hi hj e => by rw [← h i hi, ← h j hj, first_same e]
end Kp

set_option maxRecDepth 100000 in
set_option maxHeartbeats 2000000 in
theorem brefines_ok (A : Option Addr) (ca : Nat) (p : List Int) (B : Option Addr) (cb : Nat) (q : List Int) (w : World) (ha : Ints w w.heap.size A p) (hb : Ints w w.heap.size B q) (hlp : p.length ≤ 1000000) (hlq : q.length ≤ 1000000) (hc : Kp.code p q = 0) :
    Calls Try.prog 30 #[.slice A p.length ca, .slice B q.length cb] w fun e w' => e = .returned (.tuple #[.bool (Kp.refB p q), .int .i64 0]) ∧ Below w.heap.size w w' := by
  obtain ⟨i0, hi, hz0, hz1, hz2⟩ := info_parts infoInt
  obtain ⟨hvp, hvq, hpq⟩ := Kp.code_zero hc
  have hpv : Hid (∀ i, i < p.length → Kp.lab p i = (Kp.cls (Kp.lab p) i : Int)) := Lib.hid (Kp.vB_iff.1 hvp)
  have hqb : Hid (∀ i, i < q.length → -9223372036854775808 ≤ Kp.lab q i ∧ Kp.lab q i ≤ 9223372036854775807) := Lib.hid (fun i hi => by
    have h1 := Kp.valid_lt hvq hi
    have h2 := Kp.cntL_le q
    omega)
  have hL := Lib.hid hpq
  have hC := Lib.hid hc
  clear hc hvp hvq hpq
  go_enter Try.func30, Try.ntmps30
  go_wp2_with fail
  refine (bcheck_any A ca p B cb q _ ha hb hlp hlq).mono ?_
  rintro e w' ⟨rfl, rfl⟩
  rw [hC.out]
  go_wp2_with fail
  go_loopw [7, 18] (fun v iv wr => ∃ k : Nat, k ≤ p.length ∧ iv = .int .i64 k ∧ OwInv w wr v (Kp.fsL q p k) ∧ Hid (∀ i, i < k → Kp.lab q (Kp.first (Kp.lab p) i) = Kp.lab q i)) (fun _ iv _ => p.length - (intOf iv).toNat)
  case atStart => exact ⟨0, Nat.zero_le _, rfl, OwInv.nil w, Lib.hid (fun i hi => absurd hi (Nat.not_lt_zero _))⟩
  case round =>
    obtain ⟨k, hk, rfl, I, hD⟩ := hrel
    by_cases hlt : k < p.length
    · obtain ⟨b1, off1, x, rfl, hbb1, hc1, hx⟩ := (ha.below I.bel).at_ hlt
      have hkq : k < q.length := by rw [← hL.out]; exact hlt
      obtain ⟨b2, off2, y, rfl, hbb2, hc2, hy⟩ := (hb.below I.bel).at_ hkq
      have hyl : Hid (y = Kp.lab q k) := Lib.hid hy.out.1
      obtain ⟨xc, hxc⟩ : ∃ xc, Hid (Kp.cls (Kp.lab p) k = xc) := ⟨_, Lib.hid rfl⟩
      obtain rfl : x = (xc : Int) := by have h2 : x = Kp.lab p k := hx.out.1; rw [h2, hpv.out k hlt, hxc.out]
      have hfn := Kp.fsL_get q p (k + 1) k (Nat.lt_succ_self k)
      rw [hxc.out] at hfn
      obtain ⟨f, hf⟩ : ∃ f, Hid (Kp.lab q (Kp.first (Kp.lab p) k) = f) := ⟨_, Lib.hid rfl⟩
      rw [hf.out] at hfn
      have hFN := Lib.hid hfn
      have hfl1 := Kp.fsL_length q p k
      have hrk := Kp.rank_le (Kp.lab p) k
      obtain ⟨rk, hrk0⟩ : ∃ rk, Hid (Kp.rank (Kp.lab p) k = rk) := ⟨_, Lib.hid rfl⟩
      rw [hrk0.out] at hfl1 hrk
      have hFL := Lib.hid hfl1
      have hkq' : (k : Int) < (q.length : Int) := by omega
      clear hfn hfl1
      cases hn : Kp.newB (Kp.lab p) k with
      | true =>
        have hxr : xc = rk := by rw [← hxc.out, ← hrk0.out, Kp.cls_new hn]
        have hfy : f = y := by rw [← hf.out, hyl.out, Kp.first_self hn]
        have hN := Lib.hid hn
        have ho := I.own
        rw [hFL.out] at ho
        subst hxr
        obtain ⟨A', c', rfl⟩ := own_slice ho
        have hgd : Hid (∀ i, i < k + 1 → Kp.lab q (Kp.first (Kp.lab p) i) = Kp.lab q i) := Lib.hid (fun i hi => by
          by_cases e : i = k
          · rw [e, hf.out, hfy, hyl.out]
          · exact hD.out i (by omega))
        clear hn
        go_wp2_with (at_builtin; refine wpList_append_own _ rfl _ _ 22 rfl w.heap.size 3 i0 (.int .i64 0) 1 8 Try.underlying22 hi hz0 hz1 hz2 rfl (by decide) _ _ _ rfl (ho.alloc _) ⟨wr.heap.size, 0, none⟩ 1 1 [.int .i64 y] rfl rfl ?c1 ?c2 ?c3 ?c4 ?c5 ?_)
        case c1 => exact cell_one_new _ _ _
        case c2 => intro u hu; simp at hu; subst hu; rfl
        case c3 => unfold maxLen; omega
        case c4 => omega
        case c5 => have := I.bel.size; simp; omega
        intro v' w3 hown' hgrow _
        have I3 := OwInv.grown I (by rw [hFL.out]; exact hown') hgrow
        rw [show Kp.fsL q p k ++ [y] = Kp.fsL q p (k + 1) by rw [Kp.fsL_new hN.out, hyl.out]] at I3
        clear hown' hgrow I ho hc1 hc2
        obtain ⟨_, _, y2, hA, _, hc2, hy2⟩ := (hb.below I3.bel).at_ hkq
        cases hA
        obtain rfl : y2 = y := by rw [hy2.out.1]; exact hyl.out.symm
        obtain ⟨n1, hn1⟩ : ∃ n1, Hid (xc + 1 = n1) := ⟨_, Lib.hid rfl⟩
        have hl3 : (Kp.fsL q p (k + 1)).length = n1 := by rw [Kp.fsL_new hN.out, List.length_append, hFL.out]; exact hn1.out
        have hxr2 : (xc : Int) < (n1 : Int) := by have := hn1.out; omega
        obtain ⟨gf, cap, hv3⟩ := I3.form (by rw [hl3]; omega)
        rw [hl3] at hv3
        subst hv3
        have hcf := I3.cellAt hl3.symm xc (by rw [hl3]; omega)
        rw [hFN.out, hfy] at hcf
        go_wp2_with fail
        go_quiet (fail)
        go_wp2_with fail
        go_roundw
        case rel => exact ⟨k + 1, by omega, by go_num, I3.drewN _, hgd⟩
        case measure => simp [intOf]; omega
      | false =>
        have hlt2 : xc < rk := by rw [← hxc.out, ← hrk0.out]; exact Kp.cls_old hn
        have hne1 : ((xc : Int) == (rk : Int)) = false := by simp; omega
        have hne2 : (xc == rk) = false := by simp; omega
        have hxr2 : (xc : Int) < (rk : Int) := by omega
        have hl3 : (Kp.fsL q p k).length = rk := hFL.out
        have hfo : Hid (Kp.fsL q p (k + 1) = Kp.fsL q p k) := Lib.hid (Kp.fsL_old hn)
        rw [hfo.out] at hFN
        clear hn
        obtain ⟨gf, cap, hv3⟩ := I.form (by rw [hl3]; omega)
        rw [hl3] at hv3
        subst hv3
        have hcf := I.cellAt hl3.symm xc (by rw [hl3]; omega)
        rw [hFN.out] at hcf
        have HL3 := Lib.hid hl3
        clear hl3
        by_cases hfy : f = y
        · have hgd : Hid (∀ i, i < k + 1 → Kp.lab q (Kp.first (Kp.lab p) i) = Kp.lab q i) := Lib.hid (fun i hi => by
            by_cases e : i = k
            · rw [e, hf.out, hfy, hyl.out]
            · exact hD.out i (by omega))
          have h1 : (f != y) = false := by simpa using hfy
          clear hfy
          go_wp2_with fail
          go_quiet (fail)
          go_wp2_with fail
          go_roundw
          case rel => exact ⟨k + 1, by omega, by go_num, by rw [hfo.out]; exact I.drewN _, hgd⟩
          case measure => simp [intOf]; omega
        · have hR : Hid (Kp.refB p q = false) := Lib.hid (Kp.refB_no hlt (by rw [hf.out, ← hyl.out]; exact hfy))
          have h1 : (f != y) = true := by simpa using hfy
          clear hfy
          go_wp2_with fail
          go_quiet (fail)
          go_wp2_with fail
          go_ret2
          exact ⟨by rw [hR.out]; rfl, (I.drewN _).bel⟩
    · obtain rfl : k = p.length := by omega
      have hR : Hid (Kp.refB p q = true) := Lib.hid (Kp.refB_yes hD.out)
      go_wp2_with fail
      go_ret2
      exact ⟨by rw [hR.out]; rfl, I.bel⟩

set_option maxRecDepth 100000 in
set_option maxHeartbeats 1000000 in
theorem lrefines_ok (A : Option Addr) (ca : Nat) (p : List Int) (B : Option Addr) (cb : Nat) (q : List Int) (w : World) (ha : Ints w w.heap.size A p) (hb : Ints w w.heap.size B q) (hlp : p.length ≤ 1000000) (hlq : q.length ≤ 1000000) (hc : Kp.code p q = 0) :
    Calls Try.prog 35 #[.slice A p.length ca, .slice B q.length cb] w fun e w' => e = .returned (.bool (Kp.refB p q)) ∧ Below w.heap.size w w' := by
  obtain ⟨V, hV⟩ : ∃ V, Hid (Kp.refB p q = V) := ⟨_, Lib.hid rfl⟩
  rw [hV.out]
  go_enter Try.func35, Try.ntmps35
  go_wp2_with fail
  refine (brefines_ok A ca p B cb q _ ha hb hlp hlq hc).mono ?_
  rintro e w1 ⟨rfl, n⟩
  rw [hV.out]
  cases V
  all_goals
    go_wp2_with fail
    go_ret
    exact ⟨rfl, n⟩
end Go.Proofs.Ytdfkgkgglldokaa
