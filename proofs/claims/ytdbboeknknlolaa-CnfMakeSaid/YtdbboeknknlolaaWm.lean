/- Plain: a list is canonical where and only where it is its own canonical form. -/
import Derived.Test.YtdbboeknknlolaaWi
namespace Go.Proofs.Ytdbboeknknlolaa
open Go.RowKit Go.Sort
set_option linter.unusedVariables false

/-- each after the one before it -/
def asc {α : Type} (c : α → α → Int) : List α → Bool
  | a :: b :: l => decide (c a b < 0) && asc c (b :: l)
  | _ => true
theorem asc_cons {α : Type} {c : α → α → Int} {a b : α} {l : List α} : asc c (a :: b :: l) = (decide (c a b < 0) && asc c (b :: l)) := rfl
theorem asc_pair {α : Type} {c : α → α → Int} (h : Cmp c) : ∀ {l : List α}, asc c l = true ↔ l.Pairwise (fun a b => c a b < 0) := by
  intro l
  induction l with
  | nil => simp [asc]
  | cons a l ih =>
    cases l with
    | nil => simp [asc]
    | cons b l =>
      rw [asc_cons, Bool.and_eq_true, decide_eq_true_eq, ih, List.pairwise_cons (a := a) (l := b :: l)]
      constructor
      · rintro ⟨h1, h2⟩
        refine ⟨fun x hx => ?_, h2⟩
        rcases List.mem_cons.1 hx with rfl | hx
        · exact h1
        · exact h.trans _ _ _ h1 ((List.pairwise_cons.1 h2).1 x hx)
      · rintro ⟨h1, h2⟩
        exact ⟨h1 b (by simp), h2⟩
theorem asc_drop {α : Type} {c : α → α → Int} {zs : List α} {m : Nat} {x y : α} (hx : zs[m]? = some x) (hy : zs[m + 1]? = some y) : asc c (zs.drop m) = (decide (c x y < 0) && asc c (zs.drop (m + 1))) := by
  rw [drop_cons_ hx, drop_cons_ hy]; rfl
theorem asc_end {α : Type} {c : α → α → Int} {zs : List α} {m : Nat} (h : zs.length ≤ m + 1) : asc c (zs.drop m) = true := by
  have : (zs.drop m).length ≤ 1 := by rw [List.length_drop]; omega
  cases hz : zs.drop m with
  | nil => rfl
  | cons a l =>
    cases l with
    | nil => rfl
    | cons b l => rw [hz] at this; simp at this
/-- is it a canonical list? -/
def isCan (L : List (List Int)) : Bool := (L.all fun z => asc litC z && !taut z) && asc clC L
theorem isCan_iff (L : List (List Int)) : isCan L = true ↔ L = canL L := by
  unfold isCan
  rw [Bool.and_eq_true, List.all_eq_true, asc_pair clC_cmp]
  constructor
  · rintro ⟨h1, h2⟩
    have e1 : L.map srtL = L := by
      conv => rhs; rw [← List.map_id L]
      refine List.map_congr_left fun z hz => ?_
      have := h1 z hz
      rw [Bool.and_eq_true, asc_pair litC_cmp] at this
      exact srt_self litC_cmp this.1
    have e2 : (L.filter fun k => !taut k) = L := List.filter_eq_self.2 fun z hz => by
      have := h1 z hz
      rw [Bool.and_eq_true] at this
      exact this.2
    unfold canL
    rw [e1, e2, srt_self clC_cmp h2]
  · intro h
    have hp : L.Pairwise (fun a b => clC a b < 0) := by
      rw [h]; exact srt_sorted clC_cmp _
    refine ⟨fun z hz => ?_, hp⟩
    rw [h] at hz
    obtain ⟨⟨y, hy, rfl⟩, ht⟩ := canL_mem.1 hz
    rw [Bool.and_eq_true, asc_pair litC_cmp]
    exact ⟨srt_sorted litC_cmp y, by rw [ht]; rfl⟩
theorem isCan_dec (L : List (List Int)) : decide (L = canL L) = isCan L := by
  cases h : isCan L with
  | true => exact decide_eq_true ((isCan_iff L).1 h)
  | false => exact decide_eq_false fun e => by rw [(isCan_iff L).2 e] at h; cases h
end Go.Proofs.Ytdbboeknknlolaa
