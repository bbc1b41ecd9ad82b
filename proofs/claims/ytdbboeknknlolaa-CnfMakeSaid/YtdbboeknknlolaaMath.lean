/- Plain: literal order, clause order, strictly ascending lists, the canonical form of a list of clauses. Of no program. -/
import Derived.IntWalk
namespace Go.Proofs.Ytdbboeknknlolaa
set_option linter.unusedVariables false

/-- an order as a comparison: 0 at equals alone, and transitive -/
structure Cmp {α : Type} (c : α → α → Int) : Prop where
  zero : ∀ a b, c a b = 0 ↔ a = b
  swap : ∀ a b, c a b < 0 ↔ 0 < c b a
  trans : ∀ a b d, c a b < 0 → c b d < 0 → c a d < 0
namespace Cmp
variable {α : Type} {c : α → α → Int}
theorem irr (h : Cmp c) (a : α) : ¬ c a a < 0 := by rw [(h.zero a a).2 rfl]; decide
theorem tri (h : Cmp c) (a b : α) : c a b < 0 ∨ a = b ∨ c b a < 0 := by
  rcases Int.lt_trichotomy (c a b) 0 with h1 | h1 | h1
  · exact .inl h1
  · exact .inr (.inl ((h.zero a b).1 h1))
  · exact .inr (.inr ((h.swap b a).2 h1))
/-- strictly ascending lists are determined by what is in them -/
theorem uniq (h : Cmp c) : ∀ {l m : List α}, l.Pairwise (fun a b => c a b < 0) → m.Pairwise (fun a b => c a b < 0) → (∀ x, x ∈ l ↔ x ∈ m) → l = m := by
  intro l
  induction l with
  | nil =>
    intro m _ _ he
    cases m with
    | nil => rfl
    | cons b m => exact absurd ((he b).2 (by simp)) (by simp)
  | cons a l ih =>
    intro m hl hm he
    cases m with
    | nil => exact absurd ((he a).1 (by simp)) (by simp)
    | cons b m =>
      rw [List.pairwise_cons] at hl hm
      have hab : a = b := by
        have h1 : a ∈ b :: m := (he a).1 (by simp)
        have h2 : b ∈ a :: l := (he b).2 (by simp)
        rcases List.mem_cons.1 h1 with h1 | h1
        · exact h1
        rcases List.mem_cons.1 h2 with h2 | h2
        · exact h2.symm
        exact absurd (h.trans _ _ _ (hm.1 _ h1) (hl.1 _ h2)) (h.irr b)
      subst hab
      rw [ih hl.2 hm.2]
      intro x
      constructor
      · intro hx
        rcases List.mem_cons.1 ((he x).1 (by simp [hx])) with h1 | h1
        · subst h1; exact absurd (hl.1 _ hx) (h.irr x)
        · exact h1
      · intro hx
        rcases List.mem_cons.1 ((he x).2 (by simp [hx])) with h1 | h1
        · subst h1; exact absurd (hm.1 _ hx) (h.irr x)
        · exact h1
end Cmp
/-- put into a strictly ascending list -/
def ins {α : Type} (c : α → α → Int) (a : α) : List α → List α
  | [] => [a]
  | b :: l => if c a b < 0 then a :: b :: l else if c a b = 0 then b :: l else b :: ins c a l
/-- sorted, each once -/
def srt {α : Type} (c : α → α → Int) (l : List α) : List α := l.foldr (ins c) []
section
variable {α : Type} {c : α → α → Int}
theorem ins_mem (h : Cmp c) (a x : α) : ∀ l, x ∈ ins c a l ↔ x = a ∨ x ∈ l := by
  intro l
  induction l with
  | nil => simp [ins]
  | cons b l ih =>
    unfold ins
    by_cases h1 : c a b < 0
    · rw [if_pos h1]; simp
    · rw [if_neg h1]
      by_cases h2 : c a b = 0
      · rw [if_pos h2]
        have := (h.zero a b).1 h2
        subst this
        simp
      · rw [if_neg h2, List.mem_cons, ih, List.mem_cons]
        constructor
        · rintro (h3 | h3 | h3)
          · exact .inr (.inl h3)
          · exact .inl h3
          · exact .inr (.inr h3)
        · rintro (h3 | h3 | h3)
          · exact .inr (.inl h3)
          · exact .inl h3
          · exact .inr (.inr h3)
theorem ins_sorted (h : Cmp c) (a : α) : ∀ l, l.Pairwise (fun a b => c a b < 0) → (ins c a l).Pairwise (fun a b => c a b < 0) := by
  intro l
  induction l with
  | nil => intro _; simp [ins]
  | cons b l ih =>
    intro hl
    have hl0 := hl
    rw [List.pairwise_cons] at hl
    unfold ins
    by_cases h1 : c a b < 0
    · rw [if_pos h1, List.pairwise_cons]
      refine ⟨fun x hx => ?_, hl0⟩
      rcases List.mem_cons.1 hx with hx | hx
      · subst hx; exact h1
      · exact h.trans _ _ _ h1 (hl.1 _ hx)
    · rw [if_neg h1]
      by_cases h2 : c a b = 0
      · rw [if_pos h2]; exact hl0
      · rw [if_neg h2, List.pairwise_cons]
        refine ⟨fun x hx => ?_, ih hl.2⟩
        rcases (ins_mem h a x l).1 hx with hx | hx
        · subst hx
          rcases h.tri x b with h3 | h3 | h3
          · exact absurd h3 h1
          · exact absurd ((h.zero x b).2 h3) h2
          · exact h3
        · exact hl.1 _ hx
theorem srt_mem (h : Cmp c) (x : α) (l : List α) : x ∈ srt c l ↔ x ∈ l := by
  induction l with
  | nil => simp [srt]
  | cons a l ih =>
    show x ∈ ins c a (srt c l) ↔ _
    rw [ins_mem h, ih, List.mem_cons]
theorem srt_sorted (h : Cmp c) (l : List α) : (srt c l).Pairwise (fun a b => c a b < 0) := by
  induction l with
  | nil => exact .nil
  | cons a l ih => exact ins_sorted h a _ ih
theorem srt_eq (h : Cmp c) {l m : List α} (hm : m.Pairwise (fun a b => c a b < 0)) (he : ∀ x, x ∈ m ↔ x ∈ l) : m = srt c l :=
  h.uniq hm (srt_sorted h l) fun x => by rw [he, srt_mem h]
theorem srt_self (h : Cmp c) {l : List α} (hl : l.Pairwise (fun a b => c a b < 0)) : srt c l = l := (srt_eq h hl fun _ => Iff.rfl).symm
theorem srt_congr (h : Cmp c) {l m : List α} (he : ∀ x, x ∈ l ↔ x ∈ m) : srt c l = srt c m := srt_eq h (srt_sorted h l) fun x => by rw [srt_mem h, he]
end
/-- a comparison as the package makes it: -1, 0, 1 -/
def litC (a b : Int) : Int := if a.natAbs < b.natAbs then -1 else if b.natAbs < a.natAbs then 1 else if a < b then -1 else if b < a then 1 else 0
theorem litC_neg (x y : Int) : litC x y < 0 ↔ (x.natAbs < y.natAbs ∨ (x.natAbs = y.natAbs ∧ x < y)) := by
  unfold litC
  split
  · constructor <;> intro h <;> omega
  · split
    · constructor <;> intro h <;> omega
    · split
      · constructor <;> intro h <;> omega
      · split <;> constructor <;> intro h <;> omega
theorem litC_pos (x y : Int) : 0 < litC x y ↔ (y.natAbs < x.natAbs ∨ (y.natAbs = x.natAbs ∧ y < x)) := by
  unfold litC
  split
  · constructor <;> intro h <;> omega
  · split
    · constructor <;> intro h <;> omega
    · split
      · constructor <;> intro h <;> omega
      · split <;> constructor <;> intro h <;> omega
theorem litC_cmp : Cmp litC where
  zero a b := by
    have h1 := litC_neg a b
    have h2 := litC_pos a b
    constructor
    · intro h
      rw [h] at h1 h2
      simp only [Int.lt_irrefl, false_iff] at h1 h2
      omega
    · rintro rfl
      unfold litC; simp
  swap a b := by rw [litC_neg, litC_pos]
  trans a b d := by
    rw [litC_neg, litC_neg, litC_neg]
    omega
theorem litC_val (a b : Int) : litC a b = -1 ∨ litC a b = 0 ∨ litC a b = 1 := by
  unfold litC
  repeat' split
  all_goals simp
/-- clause order -/
def clC : List Int → List Int → Int
  | [], [] => 0
  | [], _ :: _ => -1
  | _ :: _, [] => 1
  | a :: l, b :: m => if litC a b ≠ 0 then litC a b else clC l m
theorem clC_cmp : Cmp clC where
  zero a := by
    induction a with
    | nil => intro b; cases b <;> simp [clC]
    | cons x l ih =>
      intro b
      cases b with
      | nil => simp [clC]
      | cons y m =>
        unfold clC
        by_cases h : litC x y = 0
        · rw [if_neg (by simpa using h), ih, (litC_cmp.zero x y).1 h]; simp
        · rw [if_pos h]
          have : x ≠ y := fun e => h ((litC_cmp.zero x y).2 e)
          simp [h, this]
  swap a := by
    induction a with
    | nil => intro b; cases b <;> simp [clC]
    | cons x l ih =>
      intro b
      cases b with
      | nil => simp [clC]
      | cons y m =>
        unfold clC
        by_cases h : litC x y = 0
        · have h2 : litC y x = 0 := (litC_cmp.zero y x).2 ((litC_cmp.zero x y).1 h).symm
          rw [if_neg (by simpa using h), if_neg (by simpa using h2), ih]
        · have h2 : litC y x ≠ 0 := fun e => h ((litC_cmp.zero x y).2 ((litC_cmp.zero y x).1 e).symm)
          rw [if_pos h, if_pos h2]; exact litC_cmp.swap x y
  trans a := by
    induction a with
    | nil =>
      intro b d h1 h2
      cases b with
      | nil => simp [clC] at h1
      | cons y m =>
        cases d with
        | nil => simp [clC] at h2
        | cons z n => simp [clC]
    | cons x l ih =>
      intro b d h1 h2
      cases b with
      | nil => simp [clC] at h1
      | cons y m =>
        cases d with
        | nil => simp [clC] at h2
        | cons z n =>
          unfold clC at h1 h2 ⊢
          by_cases e1 : litC x y = 0
          · rw [if_neg (by simpa using e1)] at h1
            rw [(litC_cmp.zero x y).1 e1]
            by_cases e2 : litC y z = 0
            · rw [if_neg (by simpa using e2)] at h2 ⊢
              exact ih m n h1 h2
            · rw [if_pos e2] at h2 ⊢
              exact h2
          · rw [if_pos e1] at h1
            by_cases e2 : litC y z = 0
            · rw [← (litC_cmp.zero y z).1 e2, if_pos e1]; exact h1
            · rw [if_pos e2] at h2
              have h3 := litC_cmp.trans _ _ _ h1 h2
              rw [if_pos (by omega)]; exact h3
theorem clC_val (a b : List Int) : clC a b = -1 ∨ clC a b = 0 ∨ clC a b = 1 := by
  induction a generalizing b with
  | nil => cases b <;> simp [clC]
  | cons x l ih =>
    cases b with
    | nil => simp [clC]
    | cons y m =>
      unfold clC
      split
      · exact litC_val x y
      · exact ih m
/-- the negative as the machine has it -/
def neg (x : Int) : Int := if x = -9223372036854775808 then x else -x
/-- neighbours that are negatives of one another -/
def taut : List Int → Bool
  | a :: b :: l => decide (a = neg b) || taut (b :: l)
  | _ => false
/-- the canonical form of a clause, of a list of clauses -/
abbrev srtL (l : List Int) : List Int := srt litC l
def canL (l : List (List Int)) : List (List Int) := srt clC ((l.map srtL).filter fun k => !taut k)
end Go.Proofs.Ytdbboeknknlolaa
