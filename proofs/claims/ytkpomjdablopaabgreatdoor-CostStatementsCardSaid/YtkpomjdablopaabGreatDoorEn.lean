/- Walks: Enter of package cost and of its reference. -/
import Derived.Test.YtkpomjdablopaabGreatDoorRi
namespace Go.Proofs.YtkpomjdablopaabGreatDoor
open Go.RowKit Go.Sort
set_option linter.unusedVariables false

theorem raC_vals (c : C) (l : List E) : raC c [] l = ckC c l := by
  unfold raC ckC
  cases c.ok with
  | false => rfl
  | true =>
    simp only [List.map_nil, orL, if_true, List.all_nil]
    split <;> simp_all
theorem ckC_all {c : C} {l : List E} (h : ckC c l = 0) (hl : l ≠ [] ∨ c.ok = true) : c.ok = true := by
  unfold ckC at h
  cases hc : c.ok with
  | true => rfl
  | false => rw [hc] at h; simp at h
theorem ckC_ok {c : C} {l : List E} (h : ckC c l = 0) : c.ok = true := by
  unfold ckC at h
  cases hc : c.ok with
  | true => rfl
  | false => rw [hc] at h; simp at h
/-- the code of Enter -/
def enK (c : C) (l : List E) (zs : List Int) : Int := if ckC c l = 0 then (if l.length = zs.length then scC zs else 2) else ckC c l
/-- the costs of arguments -/
def enS (c : C) : List E → List Int → Int
  | e :: l, z :: zs => e.sum c.opC + c.assign * z + enS c l zs
  | _, _ => 0
/-- what Enter returns -/
def enN (c : C) (l : List E) (zs : List Int) : Int := if enK c l zs = 0 then c.call + enS c l zs else 0
theorem enS_snoc (c : C) : ∀ (l : List E) (zs : List Int) (e : E) (z : Int), l.length = zs.length → enS c (l ++ [e]) (zs ++ [z]) = enS c l zs + (e.sum c.opC + c.assign * z)
  | [], [], e, z, _ => by simp [enS]
  | a :: l, y :: zs, e, z, h => by
    rw [List.cons_append, List.cons_append]
    show _ + _ + enS c (l ++ [e]) (zs ++ [z]) = _
    rw [enS_snoc c l zs e z (by simpa using h)]
    show _ = _ + _ + enS c l zs + _
    omega
  | [], y :: zs, e, z, h => by simp at h
  | a :: l, [], e, z, h => by simp at h
theorem enS_take (c : C) {l : List E} {zs : List Int} {i : Nat} {e : E} {z : Int} (hl : l.length = zs.length) (he : E.Is l i e) (hz : ∃ h : i < zs.length, zs[i] = z) : enS c (l.take (i + 1)) (zs.take (i + 1)) = enS c (l.take i) (zs.take i) + (e.sum c.opC + c.assign * z) := by
  obtain ⟨h, rfl⟩ := hz
  rw [he.take, List.take_succ_eq_append_getElem h, enS_snoc c _ _ _ _ (by rw [List.length_take, List.length_take, hl])]
theorem scC_all {zs : List Int} (h : scC zs = 0) {i : Nat} {z : Int} (hz : ∃ h : i < zs.length, zs[i] = z) : 0 ≤ z ∧ z ≤ 32 := by
  unfold scC at h
  by_cases hk : (zs.all fun x => decide (0 ≤ x) && decide (x ≤ 32)) = true
  · obtain ⟨hi, rfl⟩ := hz
    have := List.all_eq_true.1 hk zs[i] (List.getElem_mem hi)
    simpa using this
  · rw [if_neg hk] at h; exact absurd h (by decide)
theorem mul_bd {a z : Int} (ha : 0 ≤ a ∧ a ≤ 100) (hz : 0 ≤ z ∧ z ≤ 32) : 0 ≤ a * z ∧ a * z ≤ 3200 := by
  refine ⟨Int.mul_nonneg ha.1 hz.1, ?_⟩
  have h1 : a * z ≤ 100 * z := Int.mul_le_mul_of_nonneg_right ha.2 hz.1
  omega
/-- the box of a model -/
structure EnW (w wr : World) (c : C) : Prop where
  bc : Blk wr w.heap.size c.box
  bel : Below w.heap.size w wr
theorem EnW.start (w : World) (c : C) (T : TypeId) : EnW w (w.alloc (.cells c.box T)) c := ⟨Blk.new_ _ _ _, al1 _ _⟩
theorem EnW.below {w wr w' : World} {c : C} (h : EnW w wr c) (hb : Below wr.heap.size wr w') : EnW w w' c := ⟨h.bc.below hb h.bc.lt, bTrans h.bel hb⟩
/-- what a round of Enter's loop needs -/
structure EnR (c : C) (l : List E) (zs : List Int) (i : Nat) (e : E) (z m s t u tot : Int) : Prop where
  sum : e.sum c.opC = s
  mul : c.assign * z = m
  one : s + m = t
  all : tot + t = u
  nxt : u = c.call + enS c (l.take (i + 1)) (zs.take (i + 1))
  bs : 0 ≤ s ∧ s ≤ 100000000
  bm : 0 ≤ m ∧ m ≤ 3200
theorem EnR.mk' {c : C} {l : List E} {zs : List Int} {i : Nat} {e : E} {z tot : Int} (hc : c.ok = true) (hl : l.length = zs.length) (hn : e.nodes ≤ 1000000) (hs : scC zs = 0) (he : E.Is l i e) (hz : ∃ h : i < zs.length, zs[i] = z) (ht : tot = c.call + enS c (l.take i) (zs.take i)) :
    ∃ m s t u, EnR c l zs i e z m s t u tot := by
  refine ⟨_, _, _, _, rfl, rfl, rfl, rfl, ?_, ?_, mul_bd (C.ok_get hc (by simp [C.list])) (scC_all hs hz)⟩
  · rw [enS_take c hl he hz, ht]; omega
  · have := C.sum_bd hc e; omega

end Go.Proofs.YtkpomjdablopaabGreatDoor
