/- Walks: the reference's check of a type, its parts. -/
import Derived.Test.YtlpnbcdnlbghdaaDoorRa
import Derived.Test.YtlpnbcdnlbghdaaDoorIsr
import Derived.Test.YtlpnbcdnlbghdaaDoorNm
import Derived.Deep.DeepCutAuto
import Derived.Deep.RegionWith
namespace Go.Proofs.YtlpnbcdnlbghdaaDoor
open Go.RowKit Go.Sort
set_option linter.unusedVariables false

theorem nm_empty {s : ByteArray} (h : s.size = 0) : s.toList.isEmpty = true ∧ s = ⟨#[]⟩ := by
  have : s = ⟨#[]⟩ := empty_bs h
  subst this
  exact ⟨by rw [bs_toList]; rfl, rfl⟩
theorem nm_full {s : ByteArray} (h : s.size ≠ 0) : s.toList.isEmpty = false ∧ s.toList ≠ [] ∧ s ≠ ⟨#[]⟩ := by
  have h1 : s.toList ≠ [] := by
    intro hh
    rw [bs_toList] at hh
    have := congrArg List.length hh
    rw [bs_length] at this
    exact h this
  refine ⟨by simpa using h1, h1, ?_⟩
  rintro rfl; exact h rfl
theorem bx7 {w : World} {b : Nat} {e : G} (h : Blk w b e.box) :
    w.cell? ⟨b, 0, none⟩ = some (.int .i64 e.kd) ∧ w.cell? ⟨b, 1, none⟩ = some (.int .i64 e.lo) ∧ w.cell? ⟨b, 2, none⟩ = some (.int .i64 e.hi) ∧ w.cell? ⟨b, 3, none⟩ = some (.int .i64 e.sz) ∧ w.cell? ⟨b, 4, none⟩ = some (.string e.nm) ∧ w.cell? ⟨b, 5, none⟩ = some (.slice e.na e.ns.length e.nc) ∧ w.cell? ⟨b, 6, none⟩ = some (.slice e.ad e.ks.length e.cap) :=
  ⟨h.c 0 rfl, h.c 1 rfl, h.c 2 rfl, h.c 3 rfl, h.c 4 rfl, h.c 5 rfl, h.c 6 rfl⟩
/-- the fields that are not used are zero -/
def fz (e : G) : Bool := (decide (e.kd = 1) || (decide (e.lo = 0) && decide (e.hi = 0))) && (decide (e.kd = 2) || decide (e.sz = 0)) && (decide (e.kd = 4) || decide (e.nm.size = 0)) && (decide (e.kd = 3) || decide (e.ns.length = 0))
/-- the components are as many as the kind asks -/
def fk (e : G) : Bool := (decide (e.kd ≠ 2) || decide (e.ks.length = 1)) && (decide (e.kd ≠ 3) || (decide (1 ≤ e.ks.length) && decide (e.ks.length = e.ns.length))) && (decide (e.kd = 2) || decide (e.kd = 3) || decide (e.ks.length = 0))
theorem rform1_eq (e : G) : G.rform1 e = (decide (0 ≤ e.kd) && decide (e.kd ≤ 4) && fz e && fk e) := by
  unfold G.rform1 fz fk
  simp only [Bool.and_assoc]
end Go.Proofs.YtlpnbcdnlbghdaaDoor
