/- Plain laws for the reference's recursions over trees. Of no program. -/
import Derived.Test.YtmemkcaikajnnaaGreatDoorRk
import Derived.Test.YtmemkcaikajnnaaGreatDoorMem
namespace Go.Proofs.YtmemkcaikajnnaaGreatDoor.E
set_option linter.unusedVariables false

theorem lfL_app (a b : List E) (x : Int) : lfL (a ++ b) x = lfL b (lfL a x) := by
  induction a generalizing x with
  | nil => simp [lfL]
  | cons c a ih =>
    rw [List.cons_append]
    by_cases h : 0 ≤ x
    · rw [lfL_pos h, lfL_pos h, ih]
    · have hx : x < 0 := by omega
      rw [lfL_neg hx, lfL_neg hx, lfL_neg hx]
theorem lfL_stop {l : List E} {i : Nat} {x : Int} (h : lfL (l.take i) x < 0) : lfL l x = lfL (l.take i) x := by
  conv => lhs; rw [← List.take_append_drop i l, lfL_app]
  exact lfL_neg h

/-- what holds of all nodes -/
def allN (p : E → Bool) (e : E) : Bool := !e.any fun x => !p x
theorem anyL_any (q : E → Bool) (l : List E) : anyL q l = l.any (any q) := by
  induction l with
  | nil => simp [anyL]
  | cons a l ih => simp [anyL, ih]
theorem allN_eq (p : E → Bool) (e : E) : allN p e = (p e && e.ks.all (allN p)) := by
  unfold allN
  rw [any_eq, anyL_any, Bool.not_or, Bool.not_not, List.not_any_eq_all_not]
theorem all_bad {p : E → Bool} {l : List E} {i : Nat} {e : E} (h : Is l i e) (hb : p e = false) : l.all p = false := by
  rw [Bool.eq_false_iff]
  intro hk
  have := List.all_eq_true.1 hk e h.mem
  rw [hb] at this; exact Bool.noConfusion this
theorem all_good {p : E → Bool} {l : List E} (h : ∀ k, k < l.length → ∀ e, Is l k e → p e = true) : l.all p = true := by
  rw [List.all_eq_true]
  intro x hx
  obtain ⟨j, hj, rfl⟩ := List.mem_iff_getElem.1 hx
  exact h j hj _ ⟨hj, rfl⟩
theorem is_inj {l : List E} {i : Nat} {e e' : E} (h : Is l i e) (h' : Is l i e') : e = e' := by
  obtain ⟨_, rfl⟩ := h.eq
  obtain ⟨_, rfl⟩ := h'.eq
  rfl
theorem all_next {p : E → Bool} {l : List E} {i : Nat} {e : E} (h : ∀ k, k < i → ∀ e, Is l k e → p e = true) (hi : Is l i e) (hp : p e = true) : ∀ k, k < i + 1 → ∀ e, Is l k e → p e = true := fun k hk e' he' => by
  by_cases hki : k = i
  · subst hki; rw [is_inj he' hi]; exact hp
  · exact h k (by omega) e' he'
theorem rform_eq (e : E) : e.rform = (rform1 e && e.ks.all rform) := allN_eq rform1 e
theorem rnames_eq (nmB : ByteArray → Bool) (e : E) : e.rnames nmB = (rname1 nmB e && e.ks.all (rnames nmB)) := allN_eq (rname1 nmB) e
theorem rnumbers_eq (e : E) : e.rnumbers = (rnum1 e && e.ks.all rnumbers) := allN_eq rnum1 e
theorem nodes_kid {l : List E} {i : Nat} {e : E} (h : Is l i e) : nodesL (l.take i) + e.nodes ≤ nodesL l := by
  have := nodesL_take l (i + 1)
  rw [h.take, nodesL_snoc] at this
  exact this
theorem dep_kid {l : List E} {i : Nat} {e : E} (h : Is l i e) : e.dep ≤ depL l := depL_mem h.mem
theorem dep_nodes (e : E) : e.dep ≤ e.nodes := by
  induction e using E.ind with
  | h e ih =>
    have key : ∀ l : List E, (∀ k ∈ l, k.dep ≤ k.nodes) → depL l ≤ nodesL l := by
      intro l
      induction l with
      | nil => intro _; simp [depL, nodesL]
      | cons a l ihl =>
        intro hh
        have h1 := hh a (by simp)
        have h2 := ihl (fun k hk => hh k (by simp [hk]))
        simp only [depL, nodesL]
        omega
    have := key e.ks ih
    rw [dep_eq, nodes_eq]; omega
theorem nodes_kidle {l : List E} {i : Nat} {e : E} (h : Is l i e) : e.nodes ≤ nodesL l := nodesL_mem h.mem
theorem big_kid {e k : E} {i : Nat} (h : e.any big = false) (hk : Is e.ks i k) : k.any big = false := any_kid h hk.mem
end Go.Proofs.YtmemkcaikajnnaaGreatDoor.E
