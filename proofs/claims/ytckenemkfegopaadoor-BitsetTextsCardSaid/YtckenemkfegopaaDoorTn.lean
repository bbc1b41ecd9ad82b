/- Plain laws of the texts of sets: the reference's number, digit by digit. -/
import Derived.Test.YtckenemkfegopaaDoorTp
namespace Go.Proofs.YtckenemkfegopaaDoor.Kt
set_option linter.unusedVariables false

theorem fold_mono : ∀ (l : List UInt8) (a : Nat), a ≤ l.foldl (fun n c => n * 10 + (c.toNat - 48)) a := by
  intro l
  induction l with
  | nil => intro a; exact Nat.le_refl _
  | cons x l ih => intro a; exact Nat.le_trans (by show a ≤ a * 10 + (x.toNat - 48); omega) (ih _)
theorem val_app (a b : List UInt8) : valN a ≤ valN (a ++ b) := by unfold valN; rw [List.foldl_append]; exact fold_mono b _
theorem tw_split : ∀ (a b : List UInt8), a.all digC = true → (a ++ b).takeWhile digC = a ++ b.takeWhile digC := by
  intro a b h
  rw [List.takeWhile_append_of_pos (fun x hx => List.all_eq_true.1 h x hx)]
/-- digits behind the first k: too great -/
theorem numR_big {mx : Nat} {a b : List UInt8} (h : a.all digC = true) (hv : mx < valN a) : numR mx (a ++ b) = none := by
  unfold numR
  rw [tw_split a b h, if_pos]
  have := val_app a (b.takeWhile digC)
  rw [Bool.or_eq_true, decide_eq_true_eq]
  right; omega
/-- a needless zero -/
theorem numR_zero {mx : Nat} {a b : List UInt8} (h : a.all digC = true) (hl : 1 < a.length) (h0 : a.head? = some 48) : numR mx (a ++ b) = none := by
  unfold numR
  rw [tw_split a b h, if_pos]
  simp only [Bool.or_eq_true, Bool.and_eq_true, decide_eq_true_eq, beq_iff_eq]
  left; right
  refine ⟨by rw [List.length_append]; omega, ?_⟩
  cases a with
  | nil => cases h0
  | cons x a => exact h0
theorem numR_none {mx : Nat} {l : List UInt8} (h : ∀ c r, l = c :: r → digC c = false) : numR mx l = none := by
  unfold numR
  rw [if_pos]
  cases l with
  | nil => rfl
  | cons c r => rw [List.takeWhile_cons, if_neg (by rw [h c r rfl]; decide)]; rfl
/-- the digits end behind k of them -/
theorem numR_end {mx : Nat} {a b : List UInt8} (h : a.all digC = true) (h0 : a ≠ []) (hv : valN a ≤ mx) (hz : ¬ (1 < a.length ∧ a.head? = some 48)) (hb : ∀ c r, b = c :: r → digC c = false) : numR mx (a ++ b) = some (valN a, a.length) := by
  have e : (a ++ b).takeWhile digC = a := by
    rw [tw_split a b h]
    cases b with
    | nil => simp
    | cons c r => rw [List.takeWhile_cons, if_neg (by rw [hb c r rfl]; decide), List.append_nil]
  unfold numR
  rw [e, if_neg]
  simp only [Bool.or_eq_true, Bool.and_eq_true, decide_eq_true_eq, List.isEmpty_iff, beq_iff_eq, not_or]
  exact ⟨⟨h0, hz⟩, by omega⟩
end Go.Proofs.YtckenemkfegopaaDoor.Kt
