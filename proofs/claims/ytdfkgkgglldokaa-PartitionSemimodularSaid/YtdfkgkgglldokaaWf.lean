/- Pairs and greatest sizes of finer partitions. -/
import Derived.Test.YtdfkgkgglldokaaWb
import Derived.Test.YtdfkgkgglldokaaSemi
import Derived.Test.YtdfkgkgglldokaaLawLattice
namespace Go.Proofs.Ytdfkgkgglldokaa
open Go.RowKit Go.Maps
set_option linter.unusedVariables false

namespace Kp
theorem prL_ok {zs : List Int} (h : vB zs = true) : prL zs = prN (lab zs) zs.length := by unfold prL; rw [h]; rfl
theorem cnt0_ok {zs : List Int} (h : vB zs = true) : cnt0 zs = cntL zs := by unfold cnt0; rw [h]; rfl
theorem pr_ref {a b : List Int} (ha : vB a = true) (hb : vB b = true) (hl : a.length = b.length) (h : refB a b = true) : prL b ≤ prL a := by
  rw [prL_ok ha, prL_ok hb, ← hl]
  exact prN_ref (refB_true.1 h) _ (Nat.le_refl _)
theorem pr_meet {p q m : List Int} (hp : vB p = true) (hq : vB q = true) (hl : p.length = q.length) (h : IsMeet p q m) : prL m ≤ prL p + prL q := by
  rw [prL_ok hp, prL_ok hq, prL_ok h.v, h.len, ← hl]
  exact prN_meet (fun a b ha hb e => (h.iff a b ha hb).2 e) _ (Nat.le_refl _)
theorem pr_le {zs : List Int} (h : vB zs = true) (hn : zs.length ≤ 24) : prL zs ≤ 576 := by
  rw [prL_ok h]
  exact Nat.le_trans (prN_le _ _) (Nat.mul_le_mul hn hn)
theorem lg_ok {zs : List Int} (h : vB zs = true) : lgL zs = mxL (szN (lab zs) (cntL zs) zs.length) :=
  lgL_eq (by unfold szL; rw [h, if_pos rfl, szM_szN])
theorem lg_ref {a b : List Int} (ha : vB a = true) (hb : vB b = true) (hl : a.length = b.length) (h : refB a b = true) : lgL a ≤ lgL b := by
  rw [lg_ok ha, lg_ok hb]
  refine mxL_le' _ _ fun x hx => ?_
  unfold szN at hx
  obtain ⟨c, hc, rfl⟩ := List.mem_map.1 hx
  obtain ⟨i, hi, ei⟩ := cls_surj (lab a) a.length c (List.mem_range.1 hc)
  have e1 : lab a i = (c : Int) := by rw [vB_iff.1 ha i hi, ei]
  rw [← e1]
  refine Nat.le_trans (cntv_ref (refB_true.1 h) hi _ (Nat.le_refl _)) (le_mxL _ _ ?_)
  unfold szN
  refine List.mem_map.2 ⟨cls (lab b) i, List.mem_range.2 ?_, ?_⟩
  · exact cls_lt' (lab b) (by omega)
  · rw [← vB_iff.1 hb i (by omega), hl]
theorem cnt_ref {a b : List Int} (hl : a.length = b.length) (h : refB a b = true) : cntL b ≤ cntL a := by
  unfold cntL
  rw [← hl]
  exact rank_ref (refB_true.1 h)
end Kp

theorem min2 (a b n : Int) (h : n = min a b) (ts : Array TypeId) (t : TypeId) (W : World) : (Builtin.min_ ts t #[.int .i64 a, .int .i64 b]).run Try.prog W = .ok (.int .i64 n) W := by
  have e : ∀ x y : Int, (if y < x then y else x) = min x y := fun x y => by split <;> omega
  simp [Builtin.min_, Builtin.min2, List.foldlM, e, go_sem, h]
end Go.Proofs.Ytdfkgkgglldokaa
