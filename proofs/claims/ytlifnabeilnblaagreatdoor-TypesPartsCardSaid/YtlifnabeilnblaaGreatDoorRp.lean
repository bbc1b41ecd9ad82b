/- Plain laws for recursions over types. Of no program. -/
import Derived.Test.YtlifnabeilnblaaGreatDoorPl
import Derived.Test.YtlifnabeilnblaaGreatDoorMem
namespace Go.Proofs.YtlifnabeilnblaaGreatDoor
namespace G
set_option linter.unusedVariables false

theorem all_bad {p : G → Bool} {l : List G} {i : Nat} {e : G} (h : Is l i e) (hb : p e = false) : l.all p = false := by
  rw [Bool.eq_false_iff]
  intro hk
  have := List.all_eq_true.1 hk e h.mem
  rw [hb] at this; exact Bool.noConfusion this
theorem all_good {p : G → Bool} {l : List G} (h : ∀ k, k < l.length → ∀ e, Is l k e → p e = true) : l.all p = true := by
  rw [List.all_eq_true]
  intro x hx
  obtain ⟨j, hj, rfl⟩ := List.mem_iff_getElem.1 hx
  exact h j hj _ ⟨hj, rfl⟩
theorem is_inj {l : List G} {i : Nat} {e e' : G} (h : Is l i e) (h' : Is l i e') : e = e' := by
  obtain ⟨_, rfl⟩ := h.eq
  obtain ⟨_, rfl⟩ := h'.eq
  rfl
/-- what held of the kids before, and of this one -/
theorem all_next {p : G → Bool} {v : Bool} {l : List G} {i : Nat} {e : G} (h : ∀ k, k < i → ∀ e, Is l k e → p e = v) (hi : Is l i e) (hp : p e = v) : ∀ k, k < i + 1 → ∀ e, Is l k e → p e = v := fun k hk e' he' => by
  by_cases hki : k = i
  · subst hki; rw [is_inj he' hi]; exact hp
  · exact h k (by omega) e' he'
theorem any_hit {p : G → Bool} {e k : G} {i : Nat} (h : Is e.ks i k) (hk : k.any p = true) : e.any p = true := by
  apply Classical.byContradiction
  intro hn
  have := any_kid (by simpa using hn) h.mem
  rw [this] at hk; exact Bool.noConfusion hk
theorem any_here {p : G → Bool} {e : G} (h : p e = true) : e.any p = true := by rw [any_eq, h]; rfl
theorem any_none {p : G → Bool} {e : G} (h : p e = false) (hk : ∀ k, k < e.ks.length → ∀ e', Is e.ks k e' → e'.any p = false) : e.any p = false :=
  any_mk h fun k hm => by
    obtain ⟨j, hj, rfl⟩ := List.mem_iff_getElem.1 hm
    exact hk j hj _ ⟨hj, rfl⟩
theorem nodes_at {l : List G} {i : Nat} {e : G} (h : Is l i e) : nodesL (l.take i) + e.nodes ≤ nodesL l := by
  have := nodesL_take l (i + 1)
  rw [h.take, nodesL_snoc] at this
  exact this
theorem dep_nodes (e : G) : e.dep ≤ e.nodes := by
  induction e using G.ind with
  | h e ih =>
    have key : ∀ l : List G, (∀ k ∈ l, k.dep ≤ k.nodes) → depL l ≤ nodesL l := by
      intro l
      induction l with
      | nil => intro _; simp [depL, nodesL]
      | cons a l ihl =>
        intro hh
        have h1 := hh a (by simp)
        have h2 := ihl (fun k hk => hh k (by simp [hk]))
        simp only [depL, nodesL]
        omega
    have := key e.ks ih
    rw [dep_eq, nodes_eq]; omega
theorem nodes_in {e k : G} {i : Nat} (h : Is e.ks i k) : k.nodes ≤ e.nodes := by have := nodesL_mem h.mem; rw [nodes_eq e]; omega
/-- two lists of the kids' length -/
theorem eqL_bad {l l' : List G} {i : Nat} {a b : G} (ha : Is l i a) (hb : Is l' i b) (h : eqB a b = false) : eqL l l' = false := by
  rw [Bool.eq_false_iff]
  intro hk
  have hl := eqL_len hk
  obtain ⟨h1, rfl⟩ := ha.eq
  obtain ⟨h2, rfl⟩ := hb.eq
  have := (eqL_iff hl).1 hk i h1 h2
  rw [h] at this; exact Bool.noConfusion this
theorem eqL_good {l l' : List G} (hl : l.length = l'.length) (h : ∀ k, k < l.length → ∀ a, Is l k a → ∀ b, Is l' k b → eqB a b = true) : eqL l l' = true :=
  (eqL_iff hl).2 fun i h1 h2 => h i h1 _ ⟨h1, rfl⟩ _ ⟨h2, rfl⟩
theorem eqL_next {l l' : List G} {i : Nat} {a b : G} (h : ∀ k, k < i → ∀ a, Is l k a → ∀ b, Is l' k b → eqB a b = true) (ha : Is l i a) (hb : Is l' i b) (hp : eqB a b = true) :
    ∀ k, k < i + 1 → ∀ a, Is l k a → ∀ b, Is l' k b → eqB a b = true := fun k hk a' ha' b' hb' => by
  by_cases hki : k = i
  · subst hki; rw [is_inj ha' ha, is_inj hb' hb]; exact hp
  · exact h k (by omega) a' ha' b' hb'
end G
end Go.Proofs.YtlifnabeilnblaaGreatDoor
