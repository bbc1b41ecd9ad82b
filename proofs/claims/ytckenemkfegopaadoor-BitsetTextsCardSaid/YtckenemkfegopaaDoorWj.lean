/- Walks: Has, the reference's Has and Put. -/
import Derived.Test.YtckenemkfegopaaDoorWi
namespace Go.Proofs.YtckenemkfegopaaDoor
open Go.RowKit
set_option linter.unusedVariables false

/-- a member? -/
def hasB (sz : Int) (ws : List Nat) (i : Int) : Bool := Kb.validB sz ws && decide (0 ≤ i) && decide (i < sz) && Kb.bitAt ws i.toNat

theorem hasB_v {sz i : Int} {ws : List Nat} (h : Kb.validB sz ws = false) : hasB sz ws i = false := by unfold hasB; rw [h]; rfl
theorem hasB_r {sz i : Int} {ws : List Nat} (h : ¬ (0 ≤ i ∧ i < sz)) : hasB sz ws i = false := by
  unfold hasB
  by_cases h0 : 0 ≤ i
  · have : ¬ i < sz := fun h1 => h ⟨h0, h1⟩
    simp [this]
  · simp [h0]
theorem hasB_in {n i : Nat} {ws : List Nat} (hv : Kb.validB n ws = true) (h : i < n) : hasB n ws i = Kb.bitAt ws i := by
  unfold hasB; rw [hv]; simp [h]

theorem shr_bit (x k : Nat) (hx : x < 2 ^ 64) : (bits BinOp.and IntKind.u64 ((x : Int) / 2 ^ k) 1 == 1) = x.testBit k := by
  have e : ((x : Int) / 2 ^ k) = ((x / 2 ^ k : Nat) : Int) := by rw [Int.natCast_ediv, Int.natCast_pow]; rfl
  have hle : x / 2 ^ k ≤ x := Nat.div_le_self _ _
  rw [e, show (1 : Int) = ((1 : Nat) : Int) from rfl, u64_and_nat _ 1 (Nat.lt_of_le_of_lt hle hx) (by decide), nat_mask1, ← Kb.testBit_shift, Bool.eq_iff_iff]
  simp only [beq_iff_eq]
  omega

theorem box1 (w : World) (x y : Value) (T : TypeId) : Two (w.alloc (.cells #[x, y] T)) w.heap.size x y := Two.new_ _ _ _ _

theorem bcells_set (f : Nat → Bool) (n i : Nat) (m : Bool) : (bcells f n).set i (.bool m) = bcells (fun j => if j = i then m else f j) n := by
  apply List.ext_getElem?
  intro k
  unfold bcells
  rw [List.getElem?_set, List.getElem?_map, List.getElem?_map]
  by_cases h : i = k
  · subst h
    rw [if_pos rfl]
    by_cases hk : i < n
    · rw [if_pos (by simpa using hk), List.getElem?_range hk]; simp
    · rw [if_neg (by simpa using hk), List.getElem?_eq_none (by simpa using hk)]; rfl
  · rw [if_neg h]
    by_cases hk : k < n
    · rw [List.getElem?_range hk]; simp [Ne.symm h]
    · rw [List.getElem?_eq_none (by simpa using hk)]; rfl

/-- words do not lie in a block that holds an int and a slice -/
theorem Words.put_two {w : World} {B b n c : Nat} {A a : Option Addr} {ws : List Nat} {x : Int} (h : Words w B A ws) (t : Two w b (.int .i64 x) (.slice a n c)) (u v : Value) : Words ((w.setCell ⟨b, 0, none⟩ u).setCell ⟨b, 1, none⟩ v) B A ws := by
  refine ⟨⟨fun hp => ?_⟩, h.lt⟩
  obtain ⟨b', off, hA, hb, hc⟩ := h.row.cells hp
  refine ⟨b', off, hA, hb, fun k u' hu => ?_⟩
  have h1 := hc k u' hu
  by_cases e : b' = b
  · subst e
    exfalso
    obtain ⟨T, hT⟩ := t.blk
    rw [cell_of_row w b' (off + k) _ _ _ hT] at h1
    rw [List.getElem?_map] at hu
    cases hw : ws[k]? with
    | none => rw [hw] at hu; cases hu
    | some y =>
      rw [hw] at hu
      simp only [Option.map_some, Option.some.injEq] at hu
      subst hu
      match hk : off + k with
      | 0 => rw [hk] at h1; simp at h1
      | 1 => rw [hk] at h1; simp at h1
      | m + 2 => rw [hk] at h1; simp at h1
  · rw [World.cell?_setCell_other' _ _ _ _ e, World.cell?_setCell_other' _ _ _ _ e]; exact h1

end Go.Proofs.YtckenemkfegopaaDoor
