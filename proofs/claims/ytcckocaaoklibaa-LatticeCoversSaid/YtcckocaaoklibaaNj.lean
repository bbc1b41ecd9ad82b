/- Chains of a lattice, as plain steps: upwards and downwards alike. -/
import Derived.Test.YtcckocaaoklibaaNcv
namespace Go.Proofs.Ytcckocaaoklibaa.Kl
set_option linter.unusedVariables false

/-- strictly below -/
def sb (L : Nat → Nat → Bool) (a b : Nat) : Prop := L a b = true ∧ a ≠ b
/-- m strict steps lead from a up to b -/
def st (L : Nat → Nat → Bool) (n : Nat) : Nat → Nat → Nat → Prop
  | 0, a, b => a = b
  | m + 1, a, b => ∃ c, c < n ∧ sb L a c ∧ st L n m c b
section
variable {L : Nat → Nat → Bool} {n a b c m : Nat}
theorem st_last : ∀ {m a b : Nat}, a < n → (st L n (m + 1) a b ↔ b < n ∧ ∃ c, c < n ∧ st L n m a c ∧ sb L c b) := by
  intro m
  induction m with
  | zero =>
    intro a b ha
    constructor
    · rintro ⟨c, hc, h1, rfl⟩; exact ⟨hc, a, ha, rfl, h1⟩
    · rintro ⟨hb, c, hc, rfl, h1⟩; exact ⟨b, hb, h1, rfl⟩
  | succ m ih =>
    intro a b ha
    constructor
    · rintro ⟨c, hc, h1, h2⟩
      obtain ⟨hb, d, hd, h3, h4⟩ := (ih hc).1 h2
      exact ⟨hb, d, hd, ⟨c, hc, h1, h3⟩, h4⟩
    · rintro ⟨hb, d, hd, ⟨c, hc, h1, h3⟩, h4⟩
      exact ⟨c, hc, h1, (ih hc).2 ⟨hb, d, hd, h3, h4⟩⟩
/-- m strict steps upwards from a -/
def up (L : Nat → Nat → Bool) (n : Nat) : Nat → Nat → Prop
  | 0, _ => True
  | m + 1, a => ∃ c, c < n ∧ sb L a c ∧ up L n m c
/-- m strict steps downwards from a -/
def dn (L : Nat → Nat → Bool) (n : Nat) : Nat → Nat → Prop
  | 0, _ => True
  | m + 1, a => ∃ c, c < n ∧ sb L c a ∧ dn L n m c
theorem up_st : ∀ {m a : Nat}, a < n → (up L n m a ↔ ∃ b, b < n ∧ st L n m a b) := by
  intro m
  induction m with
  | zero => intro a ha; exact ⟨fun _ => ⟨a, ha, rfl⟩, fun _ => trivial⟩
  | succ m ih =>
    intro a ha
    constructor
    · rintro ⟨c, hc, h1, h2⟩
      obtain ⟨b, hb, h3⟩ := (ih hc).1 h2
      exact ⟨b, hb, c, hc, h1, h3⟩
    · rintro ⟨b, hb, c, hc, h1, h3⟩
      exact ⟨c, hc, h1, (ih hc).2 ⟨b, hb, h3⟩⟩
theorem dn_st : ∀ {m b : Nat}, b < n → (dn L n m b ↔ ∃ a, a < n ∧ st L n m a b) := by
  intro m
  induction m with
  | zero => intro b hb; exact ⟨fun _ => ⟨b, hb, rfl⟩, fun _ => trivial⟩
  | succ m ih =>
    intro b hb
    constructor
    · rintro ⟨c, hc, h1, h2⟩
      obtain ⟨a, ha, h3⟩ := (ih hc).1 h2
      exact ⟨a, ha, (st_last ha).2 ⟨hb, c, hc, h3, h1⟩⟩
    · rintro ⟨a, ha, h⟩
      obtain ⟨_, c, hc, h3, h1⟩ := (st_last ha).1 h
      exact ⟨c, hc, h1, (ih hc).2 ⟨a, ha, h3⟩⟩
/-- the longest chains upwards and downwards are of one length -/
theorem up_dn (m : Nat) : (∃ a, a < n ∧ up L n m a) ↔ ∃ b, b < n ∧ dn L n m b := by
  constructor
  · rintro ⟨a, ha, h⟩
    obtain ⟨b, hb, h⟩ := (up_st ha).1 h
    exact ⟨b, hb, (dn_st hb).2 ⟨a, ha, h⟩⟩
  · rintro ⟨b, hb, h⟩
    obtain ⟨a, ha, h⟩ := (dn_st hb).1 h
    exact ⟨a, ha, (up_st ha).2 ⟨b, hb, h⟩⟩
theorem up_less : ∀ {m a : Nat}, up L n (m + 1) a → up L n m a := by
  intro m
  induction m with
  | zero => intro a _; exact trivial
  | succ m ih => rintro a ⟨c, hc, h1, h2⟩; exact ⟨c, hc, h1, ih h2⟩
/-- below a strict step there is a cover -/
theorem Lat.cover_step (h : Lat L n) (ha : a < n) : ∀ k b, b < n → sb L a b → ((List.range n).filter fun c => L a c && L c b).length ≤ k → ∃ c, c < n ∧ cvB L n a c = true ∧ L c b = true := by
  intro k
  induction k with
  | zero =>
    intro b hb hs hk
    have : a ∈ (List.range n).filter fun c => L a c && L c b := List.mem_filter.2 ⟨List.mem_range.2 ha, by rw [h.pre.refl, hs.1]; rfl⟩
    have := List.length_pos_of_mem this
    omega
  | succ k ih =>
    intro b hb hs hk
    cases hc : cvB L n a b with
    | true => exact ⟨b, hb, hc, h.pre.refl b⟩
    | false =>
      obtain ⟨c, hcn, h1, h2, h3, h4⟩ := cvB_no hc hs.1 hs.2
      have : ((List.range n).filter fun d => L a d && L d c).length < ((List.range n).filter fun d => L a d && L d b).length := by
        refine filter_lt _ (fun x hx e => ?_) ⟨b, List.mem_range.2 hb, ?_, ?_⟩
        · rw [Bool.and_eq_true] at e ⊢
          exact ⟨e.1, h.pre.trans x c b hcn e.2 h2⟩
        · rw [hs.1, h.pre.refl]; rfl
        · cases q : L b c with
          | false => simp
          | true => exact absurd (h.anti c b hcn hb h2 q) h4
      obtain ⟨d, hd, q1, q2⟩ := ih c hcn ⟨h1, fun e => h3 e.symm⟩ (by omega)
      exact ⟨d, hd, q1, h.pre.trans d c b hcn q2 h2⟩
/-- steps by covers are enough -/
theorem Lat.up_cover (h : Lat L n) (ha : a < n) : up L n (m + 1) a ↔ ∃ c, c < n ∧ cvB L n a c = true ∧ up L n m c := by
  constructor
  · rintro ⟨b, hb, h1, h2⟩
    obtain ⟨c, hc, q1, q2⟩ := h.cover_step ha _ b hb h1 (Nat.le_refl _)
    refine ⟨c, hc, q1, ?_⟩
    by_cases e : c = b
    · rw [e]; exact h2
    · exact up_less (m := m) ⟨b, hb, ⟨q2, e⟩, h2⟩
  · rintro ⟨c, hc, q1, q2⟩
    have := cvB_iff.1 q1
    exact ⟨c, hc, ⟨this.1, this.2.1⟩, q2⟩
/-- a chain is no longer than there are levels above its foot -/
theorem Lat.up_room (h : Lat L n) : ∀ {m a : Nat}, a < n → up L n m a → m + 1 ≤ ((List.range n).filter fun c => L a c).length := by
  intro m
  induction m with
  | zero =>
    intro a ha _
    have : a ∈ (List.range n).filter fun c => L a c := List.mem_filter.2 ⟨List.mem_range.2 ha, h.pre.refl a⟩
    have := List.length_pos_of_mem this
    omega
  | succ m ih =>
    rintro a ha ⟨c, hc, h1, h2⟩
    have := ih hc h2
    have : ((List.range n).filter fun d => L c d).length < ((List.range n).filter fun d => L a d).length := by
      refine filter_lt _ (fun x hx e => h.pre.trans a c x hc h1.1 e) ⟨a, List.mem_range.2 ha, h.pre.refl a, ?_⟩
      cases q : L c a with
      | false => rfl
      | true => exact absurd (h.anti a c ha hc h1.1 q) h1.2
    omega
theorem Lat.up_bound (h : Lat L n) (ha : a < n) (hu : up L n m a) : m < n := by
  have h1 := h.up_room ha hu
  have h2 : ((List.range n).filter fun c => L a c).length ≤ n := Nat.le_trans (List.length_filter_le _ _) (by rw [List.length_range]; exact Nat.le_refl _)
  omega
theorem up_flip : ∀ {m a : Nat}, up (flip L) n m a ↔ dn L n m a := by
  intro m
  induction m with
  | zero => intro a; exact Iff.rfl
  | succ m ih =>
    intro a
    constructor
    · rintro ⟨c, hc, ⟨h1, h2⟩, h3⟩; exact ⟨c, hc, ⟨h1, fun e => h2 e.symm⟩, ih.1 h3⟩
    · rintro ⟨c, hc, ⟨h1, h2⟩, h3⟩; exact ⟨c, hc, ⟨h1, fun e => h2 e.symm⟩, ih.2 h3⟩
theorem Lat.dn_bound (h : Lat L n) (ha : a < n) (hd : dn L n m a) : m < n := h.flip_.up_bound ha (up_flip.2 hd)
end
end Go.Proofs.Ytcckocaaoklibaa.Kl
