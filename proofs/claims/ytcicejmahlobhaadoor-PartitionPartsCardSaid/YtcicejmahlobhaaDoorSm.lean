import Derived.Test.YtcicejmahlobhaaDoorBPop
import Derived.Test.YtcicejmahlobhaaDoorSizes
/- Plain laws: the classes that a list of elements meets. No Go in sight. -/
namespace Go.Proofs.YtcicejmahlobhaaDoor.Ks

/-- is class c met by the elements L? -/
def metL (f : Nat → Int) (L : List Nat) (c : Nat) : Bool := L.any fun i => f i == (c : Int)
theorem metL_snoc (f : Nat → Int) (L : List Nat) (i c : Nat) : metL f (L ++ [i]) c = (metL f L c || f i == (c : Int)) := by
  unfold metL; rw [List.any_append]; simp
/-- how many classes below m are met -/
def brM (g : Nat → Bool) : Nat → Nat
  | 0 => 0
  | m + 1 => brM g m + if g m then 1 else 0
theorem brM_le (g : Nat → Bool) (m : Nat) : brM g m ≤ m := by
  induction m with
  | zero => exact Nat.le_refl _
  | succ m ih => unfold brM; split <;> omega
theorem brM_congr {g h : Nat → Bool} {m : Nat} (e : ∀ c, c < m → g c = h c) : brM g m = brM h m := by
  induction m with
  | zero => rfl
  | succ m ih => unfold brM; rw [ih (fun c hc => e c (by omega)), e m (by omega)]
theorem brM_mono {g h : Nat → Bool} {m : Nat} (e : ∀ c, c < m → g c = true → h c = true) : brM g m ≤ brM h m := by
  induction m with
  | zero => exact Nat.le_refl _
  | succ m ih =>
    unfold brM
    have h1 := ih (fun c hc => e c (by omega))
    have h2 := e m (by omega)
    cases hg : g m with
    | false => simp; omega
    | true => rw [h2 hg]; simp; omega
theorem brM_one {g h : Nat → Bool} {m c : Nat} (hc : c < m) (e : ∀ d, d ≠ c → h d = g d) (h0 : g c = false) (h1 : h c = true) : brM h m = brM g m + 1 := by
  induction m with
  | zero => omega
  | succ m ih =>
    unfold brM
    by_cases hm : c = m
    · subst hm
      rw [brM_congr (fun d hd => e d (by omega)), h0, h1]; rfl
    · rw [ih (by omega), e m (fun q => hm q.symm)]; omega
theorem brM_zero (m : Nat) : brM (fun _ => false) m = 0 := by
  induction m with
  | zero => rfl
  | succ m ih => unfold brM; rw [ih]; rfl
theorem met_old {f : Nat → Int} {L : List Nat} {i c m : Nat} (h : f i = (c : Int)) (hm : metL f L c = true) : brM (metL f (L ++ [i])) m = brM (metL f L) m := by
  refine brM_congr fun d _ => ?_
  rw [metL_snoc]
  by_cases hd : d = c
  · rw [hd, hm]; rfl
  · rw [show (f i == (d : Int)) = false by simp; omega, Bool.or_false]
theorem met_new {f : Nat → Int} {L : List Nat} {i c m : Nat} (h : f i = (c : Int)) (hc : c < m) (hm : metL f L c = false) : brM (metL f (L ++ [i])) m = brM (metL f L) m + 1 := by
  refine brM_one hc (fun d hd => ?_) hm ?_
  · rw [metL_snoc, show (f i == (d : Int)) = false by simp; omega, Bool.or_false]
  · rw [metL_snoc, hm]; simp [h]
theorem membersTo_mem {f : Nat → Bool} {n x : Nat} : x ∈ Kb.membersTo f n ↔ x < n ∧ f x = true := by
  unfold Kb.membersTo; rw [List.mem_filter, List.mem_range]
/-- class c meets the set b below n -/
def hitB (f : Nat → Int) (b : Nat → Bool) (n c : Nat) : Bool := (List.range n).any fun i => f i == (c : Int) && b i
theorem hitB_succ (f : Nat → Int) (b : Nat → Bool) (n c : Nat) : hitB f b (n + 1) c = (hitB f b n c || (f n == (c : Int) && b n)) := by
  unfold hitB; rw [List.range_succ, List.any_append]; simp
theorem metL_members (f : Nat → Int) (b : Nat → Bool) (n c : Nat) : metL f (Kb.membersTo b n) c = hitB f b n c := by
  unfold metL hitB Kb.membersTo
  rw [List.any_filter]
  congr 1
  funext i
  cases b i <;> simp
theorem hitB_mono {f : Nat → Int} {b d : Nat → Bool} {n c : Nat} (h : ∀ i, i < n → d i = true → b i = true) (hc : hitB f d n c = true) : hitB f b n c = true := by
  unfold hitB at hc ⊢
  rw [List.any_eq_true] at hc ⊢
  obtain ⟨i, hi, hx⟩ := hc
  rw [Bool.and_eq_true] at hx
  exact ⟨i, hi, by rw [hx.1, h i (List.mem_range.1 hi) hx.2]; rfl⟩
theorem hitB_true {f : Nat → Int} {b : Nat → Bool} {n c : Nat} : hitB f b n c = true ↔ ∃ i, i < n ∧ f i = (c : Int) ∧ b i = true := by
  unfold hitB
  rw [List.any_eq_true]
  constructor
  · rintro ⟨i, hi, hx⟩
    rw [Bool.and_eq_true, beq_iff_eq] at hx
    exact ⟨i, List.mem_range.1 hi, hx.1, hx.2⟩
  · rintro ⟨i, hi, h1, h2⟩
    exact ⟨i, List.mem_range.2 hi, by rw [h1, h2]; simp⟩
/-- a set of at most 64 elements is one word -/
theorem one_word {n : Nat} (h0 : 0 < n) (h : n ≤ 64) (f : Nat → Bool) : ∃ x, Kb.mkWords n f = [x] ∧ x < 2 ^ 64 ∧ ∀ j, x.testBit j = (decide (j < n) && f j) := by
  have hn : Kb.nw n = 1 := by unfold Kb.nw; omega
  refine ⟨Kb.wordTo (fun i => decide (i < n) && f i) 64, ?_, Kb.wordTo_lt _ _, fun j => ?_⟩
  · unfold Kb.mkWords
    rw [hn]
    simp [List.range_succ]
  · rw [Kb.wordTo_testBit]
    by_cases hj : j < n
    · simp [hj, show j < 64 by omega]
    · simp [hj]
end Go.Proofs.YtcicejmahlobhaaDoor.Ks
