/- The covers of a lattice, as a plain list: they make the same order. -/
import Derived.Test.YtcckocaaoklibaaNlm
namespace Go.Proofs.Ytcckocaaoklibaa.Kl
set_option linter.unusedVariables false

/-- does b cover a? -/
def cvB (L : Nat → Nat → Bool) (n a b : Nat) : Bool := L a b && decide (a ≠ b) && (List.range n).all fun c => decide (c = a) || decide (c = b) || !(L a c && L c b)
/-- the covers of a among the first k levels -/
def cvRow (L : Nat → Nat → Bool) (n a k : Nat) : List (Int × Int) := ((List.range k).filter (cvB L n a)).map fun (b : Nat) => ((a : Int), (b : Int))
/-- the covers of the first a levels -/
def cvTo (L : Nat → Nat → Bool) (n a : Nat) : List (Int × Int) := (List.range a).flatMap fun a => cvRow L n a n
section
variable {L : Nat → Nat → Bool} {n a b c k : Nat}
theorem cvRow_zero : cvRow L n a 0 = [] := rfl
theorem cvRow_succ : cvRow L n a (k + 1) = cvRow L n a k ++ (if cvB L n a k then [((a : Int), (k : Int))] else []) := by
  unfold cvRow
  rw [List.range_succ, List.filter_append, List.map_append]
  congr 1
  cases h : cvB L n a k <;> simp [h]
theorem cvTo_zero : cvTo L n 0 = [] := rfl
theorem cvTo_succ : cvTo L n (a + 1) = cvTo L n a ++ cvRow L n a n := by
  unfold cvTo
  rw [List.range_succ, List.flatMap_append]; simp
theorem cv_mem {p : Int × Int} : p ∈ cvTo L n n ↔ ∃ a b, a < n ∧ b < n ∧ cvB L n a b = true ∧ p = ((a : Int), (b : Int)) := by
  unfold cvTo cvRow
  simp only [List.mem_flatMap, List.mem_range, List.mem_map, List.mem_filter]
  constructor
  · rintro ⟨a, ha, b, ⟨hb, hc⟩, rfl⟩; exact ⟨a, b, ha, hb, hc, rfl⟩
  · rintro ⟨a, b, ha, hb, hc, rfl⟩; exact ⟨a, ha, b, ⟨hb, hc⟩, rfl⟩
theorem cvB_iff : cvB L n a b = true ↔ L a b = true ∧ a ≠ b ∧ ∀ c, c < n → L a c = true → L c b = true → c = a ∨ c = b := by
  unfold cvB
  simp only [Bool.and_eq_true, decide_eq_true_eq, List.all_eq_true, List.mem_range, Bool.or_eq_true, Bool.not_eq_true', Bool.and_eq_false_iff]
  constructor
  · rintro ⟨⟨h1, h2⟩, h3⟩
    refine ⟨h1, h2, fun c hc h4 h5 => ?_⟩
    rcases h3 c hc with e | e | e
    · exact e
    · rw [h4] at e; cases e
    · rw [h5] at e; cases e
  · rintro ⟨h1, h2, h3⟩
    refine ⟨⟨h1, h2⟩, fun c hc => ?_⟩
    cases h4 : L a c with
    | false => exact .inr (.inl rfl)
    | true =>
      cases h5 : L c b with
      | false => exact .inr (.inr rfl)
      | true => exact .inl (h3 c hc h4 h5)
theorem cvB_no (h : cvB L n a b = false) (h1 : L a b = true) (h2 : a ≠ b) : ∃ c, c < n ∧ L a c = true ∧ L c b = true ∧ c ≠ a ∧ c ≠ b := by
  unfold cvB at h
  rw [h1, decide_eq_true h2, Bool.true_and, Bool.true_and, List.all_eq_false] at h
  obtain ⟨c, hc, h3⟩ := h
  simp only [Bool.or_eq_true, decide_eq_true_eq, Bool.not_eq_true', Bool.and_eq_false_iff, not_or, Bool.not_eq_false] at h3
  exact ⟨c, List.mem_range.1 hc, h3.2.1, h3.2.2, h3.1.1, h3.1.2⟩

theorem filter_lt {p q : Nat → Bool} : ∀ (l : List Nat), (∀ x ∈ l, p x = true → q x = true) → (∃ x ∈ l, q x = true ∧ p x = false) → (l.filter p).length < (l.filter q).length := by
  intro l
  induction l with
  | nil => rintro _ ⟨x, hx, _⟩; cases hx
  | cons y l ih =>
    intro h1 h2
    have hle : (l.filter p).length ≤ (l.filter q).length := by
      have h1' : ∀ x ∈ l, p x = true → q x = true := fun x hx => h1 x (List.mem_cons_of_mem _ hx)
      clear ih h2 h1
      induction l with
      | nil => exact Nat.le_refl _
      | cons z l ih2 =>
        have := ih2 (fun x hx => h1' x (List.mem_cons_of_mem _ hx))
        rw [List.filter_cons, List.filter_cons]
        have hz := h1' z List.mem_cons_self
        cases hp : p z with
        | true => rw [hz hp]; simpa using this
        | false =>
          cases hq : q z with
          | true => simp; omega
          | false => simpa using this
    rw [List.filter_cons, List.filter_cons]
    obtain ⟨x, hx, hqx, hpx⟩ := h2
    rcases List.mem_cons.1 hx with rfl | hx
    · rw [hqx, hpx]; simp; omega
    · have := ih (fun x hx => h1 x (List.mem_cons_of_mem _ hx)) ⟨x, hx, hqx, hpx⟩
      have hy := h1 y List.mem_cons_self
      cases hp : p y with
      | true => rw [hy hp]; simpa using this
      | false =>
        cases hq : q y with
        | true => simp; omega
        | false => simpa using this

theorem clo_of {R : Nat → Nat → Bool} (k : Nat) {i j : Nat} (h : R i j = true) : clo R k i j = true := by
  induction k with
  | zero => exact h
  | succ k ih => show (clo R k i j || _) = true; rw [ih]; rfl
theorem clo_in {R : Nat → Nat → Bool} (hL : Pre L n) (h : ∀ i j, R i j = true → L i j = true) : ∀ k, k ≤ n → ∀ i j, clo R k i j = true → L i j = true := by
  intro k
  induction k with
  | zero => intro _ i j e; exact h i j e
  | succ k ih =>
    intro hk i j e
    have e' : (clo R k i j || (clo R k i k && clo R k k j)) = true := e
    rw [Bool.or_eq_true, Bool.and_eq_true] at e'
    rcases e' with e' | ⟨e1, e2⟩
    · exact ih (by omega) i j e'
    · exact hL.trans i k j (by omega) (ih (by omega) i k e1) (ih (by omega) k j e2)
/-- the covers make the order -/
theorem Lat.covers_le (h : Lat L n) : ∀ i j, i < n → j < n → le n (cvTo L n n) i j = L i j := by
  have up : ∀ m, ∀ i j, i < n → j < n → L i j = true → ((List.range n).filter fun c => L i c && L c j).length ≤ m → le n (cvTo L n n) i j = true := by
    intro m
    induction m with
    | zero =>
      intro i j hi hj hL hm
      have : i ∈ (List.range n).filter fun c => L i c && L c j := List.mem_filter.2 ⟨List.mem_range.2 hi, by rw [h.pre.refl i, hL]; rfl⟩
      have := List.length_pos_of_mem this
      omega
    | succ m ih =>
      intro i j hi hj hL hm
      by_cases hij : i = j
      · subst hij; exact le_refl _ _ _
      · cases hc : cvB L n i j with
        | true =>
          refine clo_of n ?_
          unfold base
          rw [Bool.or_eq_true]
          right
          rw [List.any_eq_true]
          exact ⟨((i : Int), (j : Int)), cv_mem.2 ⟨i, j, hi, hj, hc, rfl⟩, by simp⟩
        | false =>
          obtain ⟨c, hcn, h1, h2, h3, h4⟩ := cvB_no hc hL hij
          refine le_trans hcn (ih i c hi hcn h1 ?_) (ih c j hcn hj h2 ?_)
          · have : ((List.range n).filter fun d => L i d && L d c).length < ((List.range n).filter fun d => L i d && L d j).length := by
              refine filter_lt _ (fun x hx e => ?_) ⟨j, List.mem_range.2 hj, ?_, ?_⟩
              · rw [Bool.and_eq_true] at e ⊢
                exact ⟨e.1, h.pre.trans x c j hcn e.2 h2⟩
              · rw [hL, h.pre.refl]; rfl
              · cases q : L j c with
                | false => simp
                | true => exact absurd (h.anti c j hcn hj h2 q) h4
            omega
          · have : ((List.range n).filter fun d => L c d && L d j).length < ((List.range n).filter fun d => L i d && L d j).length := by
              refine filter_lt _ (fun x hx e => ?_) ⟨i, List.mem_range.2 hi, ?_, ?_⟩
              · rw [Bool.and_eq_true] at e ⊢
                exact ⟨h.pre.trans i c x hcn h1 e.1, e.2⟩
              · rw [hL, h.pre.refl]; rfl
              · cases q : L c i with
                | false => simp
                | true => exact absurd (h.anti c i hcn hi q h1) h3
            omega
  intro i j hi hj
  cases e : L i j with
  | true => exact up _ i j hi hj e (Nat.le_refl _)
  | false =>
    cases q : le n (cvTo L n n) i j with
    | false => rfl
    | true =>
      have := clo_in h.pre (R := base (cvTo L n n)) (fun i j hb => by
        unfold base at hb
        rw [Bool.or_eq_true] at hb
        rcases hb with hb | hb
        · rw [beq_iff_eq] at hb; subst hb; exact h.pre.refl _
        · rw [List.any_eq_true] at hb
          obtain ⟨p, hp, hpe⟩ := hb
          obtain ⟨a, b, ha, hb, hc, rfl⟩ := cv_mem.1 hp
          simp only [Bool.and_eq_true, beq_iff_eq] at hpe
          have e1 : a = i := by omega
          have e2 : b = j := by omega
          subst e1 e2
          exact (cvB_iff.1 hc).1) n (Nat.le_refl _) i j q
      rw [this] at e; cases e
theorem jn_congr {M : Nat → Nat → Bool} (h : ∀ i j, i < n → j < n → M i j = L i j) (ha : a < n) (hb : b < n) : jn M n a b = jn L n a b := by
  refine firstN_congr fun c hc => ?_
  unfold bnd
  rw [Bool.eq_iff_iff, List.all_eq_true, List.all_eq_true]
  constructor
  · intro q d hd
    have := q d hd
    rwa [h c d hc (List.mem_range.1 hd), h a d ha (List.mem_range.1 hd), h b d hb (List.mem_range.1 hd)] at this
  · intro q d hd
    rw [h c d hc (List.mem_range.1 hd), h a d ha (List.mem_range.1 hd), h b d hb (List.mem_range.1 hd)]
    exact q d hd
/-- so New takes them -/
theorem covers_new {ns : List ByteArray} {ps : List (Int × Int)} (h : newC ns ps = 0) : newC ns (cvTo (le ns.length ps) ns.length ns.length) = 0 := by
  obtain ⟨h1, h2, h3, h4, h5⟩ := newC_lat h
  have hc := h3.covers_le
  unfold newC
  rw [if_neg (by omega), if_neg (by rw [h4]; decide), if_pos]
  · unfold ckC
    rw [if_pos, if_pos]
    · refine allB_iff.2 fun a b ha hb => ?_
      rw [jn_congr hc ha hb, jn_congr (M := flip (le ns.length (cvTo (le ns.length ps) ns.length ns.length))) (L := flip (le ns.length ps)) (fun i j hi hj => hc j i hj hi) ha hb]
      exact h3.all a b ha hb
    · refine antiB_iff.2 fun a b ha hb e1 e2 => ?_
      rw [hc a b ha hb] at e1
      rw [hc b a hb ha] at e2
      exact h3.anti a b ha hb e1 e2
  · unfold inP
    rw [List.all_eq_true]
    intro p hp
    obtain ⟨a, b, ha, hb, _, rfl⟩ := cv_mem.1 hp
    simp [lvB]; omega
end
end Go.Proofs.Ytcckocaaoklibaa.Kl
