/- Plain laws of finite lattices as relations on numbers: no Go in sight. -/
namespace Go.Proofs.Ytcckocaaoklibaa.Kl

/-- one round of the closure: by way of k -/
def step (R : Nat → Nat → Bool) (k : Nat) : Nat → Nat → Bool := fun i j => R i j || (R i k && R k j)
/-- the closure by way of what is below k -/
def clo (R : Nat → Nat → Bool) : Nat → Nat → Nat → Bool
  | 0 => R
  | k + 1 => step (clo R k) k
/-- the pairs, and equality -/
def base (ps : List (Int × Int)) : Nat → Nat → Bool := fun i j => (i == j) || ps.any fun p => p.1 == (i : Int) && p.2 == (j : Int)
/-- the order of n levels -/
def le (n : Nat) (ps : List (Int × Int)) : Nat → Nat → Bool := clo (base ps) n

theorem step_row (R : Nat → Nat → Bool) (k j : Nat) : step R k k j = R k j := by
  unfold step; cases R k j <;> cases R k k <;> rfl
theorem step_col (R : Nat → Nat → Bool) (k i : Nat) : step R k i k = R i k := by
  unfold step; cases R i k <;> cases R k k <;> rfl
theorem clo_refl {R : Nat → Nat → Bool} (h : ∀ i, R i i = true) (k i : Nat) : clo R k i i = true := by
  induction k with
  | zero => exact h i
  | succ k ih => show (clo R k i i || _) = true; rw [ih]; rfl
theorem clo_trans (R : Nat → Nat → Bool) (k : Nat) : ∀ v, v < k → ∀ i j, clo R k i v = true → clo R k v j = true → clo R k i j = true := by
  induction k with
  | zero => intro v hv; omega
  | succ k ih =>
    intro v hv i j h1 h2
    have e : ∀ a b, clo R (k + 1) a b = (clo R k a b || (clo R k a k && clo R k k b)) := fun _ _ => rfl
    rw [e] at h1 h2 ⊢
    simp only [Bool.or_eq_true, Bool.and_eq_true] at h1 h2 ⊢
    by_cases hk : v = k
    · subst hk
      rcases h1 with h1 | ⟨h1, _⟩ <;> rcases h2 with h2 | ⟨_, h2⟩ <;> exact Or.inr ⟨h1, h2⟩
    · have hv' : v < k := by omega
      rcases h1 with h1 | ⟨h1, h1'⟩ <;> rcases h2 with h2 | ⟨h2, h2'⟩
      · exact Or.inl (ih v hv' i j h1 h2)
      · exact Or.inr ⟨ih v hv' i k h1 h2, h2'⟩
      · exact Or.inr ⟨h1, ih v hv' k j h1' h2⟩
      · exact Or.inr ⟨h1, h2'⟩
theorem le_refl (n : Nat) (ps : List (Int × Int)) (i : Nat) : le n ps i i = true := clo_refl (fun i => by simp [base]) n i
theorem le_trans {n : Nat} {ps : List (Int × Int)} {i v j : Nat} (hv : v < n) (h1 : le n ps i v = true) (h2 : le n ps v j = true) : le n ps i j = true := clo_trans _ n v hv i j h1 h2

/-- what a relation on n levels must be -/
structure Pre (L : Nat → Nat → Bool) (n : Nat) : Prop where
  refl : ∀ i, L i i = true
  trans : ∀ i v j, v < n → L i v = true → L v j = true → L i j = true
theorem le_pre (n : Nat) (ps : List (Int × Int)) : Pre (le n ps) n := ⟨le_refl n ps, fun _ _ _ hv h1 h2 => le_trans hv h1 h2⟩
/-- the other way round -/
def flip (L : Nat → Nat → Bool) : Nat → Nat → Bool := fun i j => L j i
theorem Pre.flip_ {L : Nat → Nat → Bool} {n : Nat} (h : Pre L n) : Pre (flip L) n := ⟨h.refl, fun i v j hv h1 h2 => h.trans j v i hv h2 h1⟩

/-- is c's row the common part of the rows of a and b? -/
def bnd (M : Nat → Nat → Bool) (n a b c : Nat) : Bool := (List.range n).all fun d => M c d == (M a d && M b d)
theorem bnd_iff {M : Nat → Nat → Bool} {n a b c : Nat} : bnd M n a b c = true ↔ ∀ d, d < n → M c d = (M a d && M b d) := by
  unfold bnd
  rw [List.all_eq_true]
  exact ⟨fun h d hd => by simpa using h d (List.mem_range.2 hd), fun h d hd => by rw [h d (List.mem_range.1 hd)]; simp⟩
/-- is c a least bound of a and b? -/
def lub (L : Nat → Nat → Bool) (n a b c : Nat) : Bool := L a c && L b c && (List.range n).all fun d => !(L a d && L b d) || L c d
theorem lub_bnd {L : Nat → Nat → Bool} {n : Nat} (h : Pre L n) (a b c : Nat) (hc : c < n) : lub L n a b c = bnd L n a b c := by
  rw [Bool.eq_iff_iff, bnd_iff]
  unfold lub
  simp only [Bool.and_eq_true, List.all_eq_true, Bool.or_eq_true, Bool.not_eq_true', List.mem_range]
  constructor
  · rintro ⟨⟨h1, h2⟩, h3⟩ d hd
    cases hcd : L c d with
    | true => rw [h.trans _ _ _ hc h1 hcd, h.trans _ _ _ hc h2 hcd]; rfl
    | false =>
      rcases h3 d hd with h4 | h4
      · exact h4.symm
      · rw [hcd] at h4; cases h4
  · intro h1
    have hcc := h1 c hc
    rw [h.refl, eq_comm, Bool.and_eq_true] at hcc
    refine ⟨hcc, fun d hd => ?_⟩
    rw [h1 d hd]
    cases L a d && L b d <;> simp

/-- the first of n that has p -/
def firstN (p : Nat → Bool) (n : Nat) : Option Nat := (List.range n).find? p
theorem firstN_some {p : Nat → Bool} {n c : Nat} (h : firstN p n = some c) : c < n ∧ p c = true ∧ ∀ d, d < c → p d = false := by
  unfold firstN at h
  rw [List.find?_eq_some_iff_getElem] at h
  obtain ⟨h1, i, hi, e, h2⟩ := h
  simp only [List.length_range, List.getElem_range] at hi e h2
  subst e
  exact ⟨hi, h1, fun d hd => by simpa using h2 d hd⟩
theorem firstN_none {p : Nat → Bool} {n : Nat} (h : firstN p n = none) : ∀ d, d < n → p d = false := fun d hd => by
  unfold firstN at h
  rw [List.find?_eq_none] at h
  simpa using h d (List.mem_range.2 hd)
theorem firstN_is {p : Nat → Bool} {n c : Nat} (hc : c < n) (h1 : p c = true) (h2 : ∀ d, d < c → p d = false) : firstN p n = some c := by
  cases h : firstN p n with
  | none => rw [firstN_none h c hc] at h1; cases h1
  | some d =>
    obtain ⟨a, b, e⟩ := firstN_some h
    rcases Nat.lt_trichotomy c d with hcd | rfl | hcd
    · rw [e c hcd] at h1; cases h1
    · rfl
    · rw [h2 d hcd] at b; cases b
theorem firstN_no {p : Nat → Bool} {n : Nat} (h : ∀ d, d < n → p d = false) : firstN p n = none := by
  cases hf : firstN p n with
  | none => rfl
  | some d =>
    obtain ⟨a, b, _⟩ := firstN_some hf
    rw [h d a] at b; cases b
theorem firstN_congr {p q : Nat → Bool} {n : Nat} (h : ∀ d, d < n → p d = q d) : firstN p n = firstN q n := by
  cases hf : firstN p n with
  | none => exact (firstN_no fun d hd => by rw [← h d hd]; exact firstN_none hf d hd).symm
  | some c =>
    obtain ⟨a, b, e⟩ := firstN_some hf
    exact (firstN_is a (by rw [← h c a]; exact b) (fun d hd => by rw [← h d (by omega)]; exact e d hd)).symm

/-- the first level whose row is the common part of two rows -/
def jn (M : Nat → Nat → Bool) (n a b : Nat) : Option Nat := firstN (bnd M n a b) n
theorem jn_lub {L : Nat → Nat → Bool} {n : Nat} (h : Pre L n) (a b : Nat) : firstN (lub L n a b) n = jn L n a b := firstN_congr fun c hc => lub_bnd h a b c hc
theorem jn_comm (M : Nat → Nat → Bool) (n a b : Nat) : jn M n a b = jn M n b a := by
  refine firstN_congr fun c _ => ?_
  unfold bnd
  congr 1; funext d; rw [Bool.and_comm]
/-- the number, 0 for none -/
def num (o : Option Nat) : Nat := o.getD 0
/-- the number, -1 for none -/
def numI (o : Option Nat) : Int := match o with | some c => (c : Int) | none => -1

/-- is the relation antisymmetric? -/
def antiB (L : Nat → Nat → Bool) (n : Nat) : Bool := (List.range n).all fun a => (List.range n).all fun b => a == b || !(L a b && L b a)
theorem antiB_iff {L : Nat → Nat → Bool} {n : Nat} : antiB L n = true ↔ ∀ a b, a < n → b < n → L a b = true → L b a = true → a = b := by
  unfold antiB
  simp only [List.all_eq_true, List.mem_range, Bool.or_eq_true, beq_iff_eq, Bool.not_eq_true', Bool.and_eq_false_iff]
  constructor
  · intro h a b ha hb h1 h2
    rcases h a ha b hb with e | e | e
    · exact e
    · rw [h1] at e; cases e
    · rw [h2] at e; cases e
  · intro h a ha b hb
    by_cases e : a = b
    · exact .inl e
    · cases h1 : L a b with
      | false => exact .inr (.inl rfl)
      | true =>
        cases h2 : L b a with
        | false => exact .inr (.inr rfl)
        | true => exact absurd (h a b ha hb h1 h2) e
/-- have every two levels a join and a meet? -/
def allB (L : Nat → Nat → Bool) (n : Nat) : Bool := (List.range n).all fun a => (List.range n).all fun b => (jn L n a b).isSome && (jn (flip L) n a b).isSome
theorem allB_iff {L : Nat → Nat → Bool} {n : Nat} : allB L n = true ↔ ∀ a b, a < n → b < n → (jn L n a b).isSome = true ∧ (jn (flip L) n a b).isSome = true := by
  unfold allB
  simp only [List.all_eq_true, List.mem_range, Bool.and_eq_true]
  exact ⟨fun h a b ha hb => h a ha b hb, fun h a ha b hb => h a b ha hb⟩
theorem jn_self {L : Nat → Nat → Bool} {n a : Nat} (ha : a < n) : (jn L n a a).isSome = true := by
  cases h : jn L n a a with
  | some c => rfl
  | none =>
    have := firstN_none h a ha
    rw [bnd_iff.2 (fun d _ => by simp)] at this; cases this
/-- it is enough to ask pairs one way round -/
theorem allB_half {L : Nat → Nat → Bool} {n : Nat} (h : ∀ a b, a < n → b < a → (jn L n a b).isSome = true ∧ (jn (flip L) n a b).isSome = true) : allB L n = true := by
  refine allB_iff.2 fun a b ha hb => ?_
  rcases Nat.lt_trichotomy b a with e | rfl | e
  · exact h a b ha e
  · exact ⟨jn_self ha, jn_self ha⟩
  · rw [jn_comm L, jn_comm (flip L)]; exact h b a hb e

/-- a lattice of n levels -/
structure Lat (L : Nat → Nat → Bool) (n : Nat) : Prop where
  pre : Pre L n
  anti : ∀ a b, a < n → b < n → L a b = true → L b a = true → a = b
  all : ∀ a b, a < n → b < n → (jn L n a b).isSome = true ∧ (jn (flip L) n a b).isSome = true
theorem Lat.flip_ {L : Nat → Nat → Bool} {n : Nat} (h : Lat L n) : Lat (flip L) n := ⟨h.pre.flip_, fun a b ha hb h1 h2 => h.anti a b ha hb h2 h1, fun a b ha hb => ⟨(h.all a b ha hb).2, (h.all a b ha hb).1⟩⟩
theorem Lat.jn_get {L : Nat → Nat → Bool} {n a b : Nat} (h : Lat L n) (ha : a < n) (hb : b < n) : ∃ c, jn L n a b = some c ∧ c < n ∧ ∀ d, d < n → L c d = (L a d && L b d) := by
  obtain ⟨c, hc⟩ := Option.isSome_iff_exists.1 (h.all a b ha hb).1
  obtain ⟨h1, h2, _⟩ := firstN_some hc
  exact ⟨c, hc, h1, bnd_iff.1 h2⟩
theorem Lat.row_inj {L : Nat → Nat → Bool} {n a b : Nat} (h : Lat L n) (ha : a < n) (hb : b < n) (e : ∀ d, d < n → L a d = L b d) : a = b :=
  h.anti a b ha hb (by rw [e b hb]; exact h.pre.refl b) (by rw [← e a ha]; exact h.pre.refl a)
/-- the join is the level whose row is the common part -/
theorem Lat.jn_is {L : Nat → Nat → Bool} {n a b c : Nat} (h : Lat L n) (ha : a < n) (hb : b < n) (hc : c < n) (e : ∀ d, d < n → L c d = (L a d && L b d)) : jn L n a b = some c := by
  obtain ⟨c', h1, h2, h3⟩ := h.jn_get ha hb
  rw [h1, h.row_inj h2 hc (fun d hd => by rw [h3 d hd, e d hd])]
end Go.Proofs.Ytcckocaaoklibaa.Kl
