/- Walks: Check of the package, Check of the laws. -/
import Derived.Test.YtdbboeknknlolaaWo
import Derived.Test.YtdbboeknknlolaaWf
import Derived.Test.YtdbboeknknlolaaW8
namespace Go.Proofs.Ytdbboeknknlolaa
open Go.RowKit Go.Sort
set_option linter.unusedVariables false

/-- the code of a formula with few clauses -/
def cfCode (v k : Int) (L : List (List Int)) : Int := if v < 0 ∨ k < 0 ∨ v < k then 1 else if 20000 < v then 4 else if wiL v L = false then 3 else if isCan L = false then 10 else 0
theorem ret_i {a b : Int} (h : a = b) : Ending.returned (.int .i64 a) = .returned (.int .i64 b) := by rw [h]
set_option maxRecDepth 100000 in
set_option maxHeartbeats 2000000 in
theorem ccheck_any (cs : List Cl) (A : Option Addr) (ca : Nat) (v k : Int) (w : World) (hx : LL w w.heap.size A cs) (hlx : cs.length ≤ 60000) (hcx : ∀ c ∈ cs, c.zs.length ≤ 1000000) :
    Calls Try.prog 11 #[.agg #[.int .i64 v, .int .i64 k, .slice A cs.length ca]] w fun e w' => e = .returned (.int .i64 (cfCode v k (ct cs))) ∧ Gro w w' := by
  have B := Blk.new_ w #[.int .i64 v, .int .i64 k, .slice A cs.length ca] 24
  have g1 := Gro.al w (.cells #[.int .i64 v, .int .i64 k, .slice A cs.length ca] 24)
  obtain ⟨n, hn⟩ : ∃ n, Hid (cs.length = n) := ⟨_, Lib.hid rfl⟩
  have HI := Lib.hid (fun W (h : Gro w W) (hv : 0 ≤ v ∧ v ≤ 20000) => within_any cs A ca W (hx.at h.bel) (by omega) hcx v hv)
  have HC := Lib.hid (fun W (h : Gro w W) => iscan_any cs A ca W (hx.at h.bel) (by omega) hcx)
  obtain ⟨R, hR⟩ : ∃ R, Hid (cfCode v k (ct cs) = R) := ⟨_, Lib.hid rfl⟩
  obtain ⟨u, hu⟩ : ∃ u, Hid (wiL v (ct cs) = u) := ⟨_, Lib.hid rfl⟩
  obtain ⟨t, ht⟩ : ∃ t, Hid (isCan (ct cs) = t) := ⟨_, Lib.hid rfl⟩
  have HR : Hid (R = if v < 0 ∨ k < 0 ∨ v < k then 1 else if 20000 < v then 4 else if u = false then 3 else if t = false then 10 else 0) := Lib.hid (by rw [← hR.out, ← hu.out, ← ht.out]; rfl)
  rw [hR.out]
  rw [hn.out] at HI HC B g1 hlx ⊢
  rw [hu.out] at HI
  rw [ht.out] at HC
  have h60 : ¬ (60000 : Int) < (n : Int) := by omega
  clear hx hcx hR hu ht
  go_enter Try.func11, Try.ntmps11
  go_upto_region 1 with (fail)
  revert B
  revert g1
  generalize w.alloc (.cells #[.int .i64 v, .int .i64 k, .slice A n ca] 24) = w1
  intro g1 B
  have c0 := B.c 0 rfl
  have c1 := B.c 1 rfl
  have c2 := B.c 2 rfl
  by_cases h1 : v < 0
  · have hr : R = 1 := by rw [HR.out, if_pos (.inl h1)]
    subst hr
    clear HR HI HC B
    go_wp2_with fail
    go_ret
    exact ⟨rfl, g1⟩
  by_cases h2 : k < 0
  · have hr : R = 1 := by rw [HR.out, if_pos (.inr (.inl h2))]
    subst hr
    clear HR HI HC B
    go_wp2_with fail
    go_ret
    exact ⟨rfl, g1⟩
  by_cases h3 : v < k
  · have hr : R = 1 := by rw [HR.out, if_pos (.inr (.inr h3))]
    subst hr
    clear HR HI HC B
    go_wp2_with fail
    go_ret
    exact ⟨rfl, g1⟩
  by_cases h4 : 20000 < v
  · have hr : R = 4 := by rw [HR.out, if_neg (by omega), if_pos h4]
    subst hr
    clear HR HI HC B
    go_wp2_with fail
    go_ret
    exact ⟨rfl, g1⟩
  have HR2 : Hid (R = if u = false then 3 else if t = false then 10 else 0) := Lib.hid (by rw [HR.out, if_neg (by omega), if_neg h4])
  have HI2 := Lib.hid (HI.out _ g1 (by omega))
  clear HR HI
  go_wp2_with fail
  refine HI2.out.mono ?_
  rintro r w2 ⟨rfl, rfl⟩
  clear HI2
  cases u with
  | false =>
    have hr : R = 3 := by rw [HR2.out]; rfl
    subst hr
    clear HR2 HC
    go_wp2_with fail
    go_ret
    exact ⟨rfl, g1⟩
  | true =>
    have HC2 := Lib.hid (HC.out _ g1)
    have HR3 : Hid (R = if t = false then 10 else 0) := Lib.hid (by rw [HR2.out]; rfl)
    clear HC HR2
    go_wp2_with fail
    refine HC2.out.mono ?_
    rintro r w2 ⟨rfl, g2⟩
    clear HC2 c0 c1 c2 B
    have g3 := g1.trans g2
    cases t with
    | false =>
      have hr : R = 10 := by rw [HR3.out]; rfl
      subst hr
      clear HR3
      go_wp2_with fail
      go_ret
      exact ⟨rfl, g3⟩
    | true =>
      have hr : R = 0 := by rw [HR3.out]; rfl
      subst hr
      clear HR3
      go_wp2_with fail
      go_ret
      exact ⟨rfl, g3⟩
end Go.Proofs.Ytdbboeknknlolaa
