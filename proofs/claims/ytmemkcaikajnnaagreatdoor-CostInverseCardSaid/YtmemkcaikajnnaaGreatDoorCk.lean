/- Plain laws of the check of an expression and of its cost. Of no program. -/
import Derived.Test.YtmemkcaikajnnaaGreatDoorTree
namespace Go.Proofs.YtmemkcaikajnnaaGreatDoor.E
set_option linter.unusedVariables false

variable {nmB : ByteArray → Bool}
theorem any_kid {p : E → Bool} {e k : E} (h : e.any p = false) (hk : k ∈ e.ks) : k.any p = false := by
  rw [any_eq, Bool.or_eq_false_iff] at h
  exact anyL_false.1 h.2 k hk
theorem any_self {p : E → Bool} {e : E} (h : e.any p = false) : p e = false := by
  rw [any_eq, Bool.or_eq_false_iff] at h
  exact h.1
/-- the check came out well -/
structure Ok (nmB : ByteArray → Bool) (e : E) : Prop where
  nodes : e.nodes ≤ 1024
  dep : e.dep ≤ 12
  mal : e.any mal = false
  mis : e.any (mis nmB) = false
  out : e.any out = false
theorem chk_ok {e : E} : chk nmB e = 0 ↔ Ok nmB e := by
  unfold chk
  constructor
  · intro h
    by_cases h1 : 1024 < e.nodes ∨ 12 < e.dep
    · rw [if_pos h1] at h; exact absurd h (by decide)
    rw [if_neg h1] at h
    cases h2 : e.any E.mal with
    | true => rw [h2] at h; simp at h
    | false =>
    cases h3 : e.any (E.mis nmB) with
    | true => rw [h2, h3] at h; simp at h
    | false =>
    cases h4 : e.any E.out with
    | true => rw [h2, h3, h4] at h; simp at h
    | false => exact ⟨by omega, by omega, h2, h3, h4⟩
  · intro h
    rw [if_neg (by have := h.nodes; have := h.dep; omega), h.mal, h.mis, h.out]; rfl
theorem Ok.kid {e k : E} (h : Ok nmB e) (hk : k ∈ e.ks) : Ok nmB k := by
  have h1 := h.nodes
  have h2 := h.dep
  have h3 := nodesL_mem hk
  have h4 := depL_mem hk
  rw [nodes_eq] at h1
  rw [dep_eq] at h2
  exact ⟨by omega, by omega, any_kid h.mal hk, any_kid h.mis hk, any_kid h.out hk⟩
theorem chk_code (e : E) : chk nmB e = 4 ∨ chk nmB e = 1 ∨ chk nmB e = 7 ∨ chk nmB e = 3 ∨ chk nmB e = 0 := by
  unfold chk
  repeat' split
  all_goals simp
theorem Ok.form {e : E} (h : Ok nmB e) : 0 ≤ e.op ∧ e.op < 24 ∧ e.form = true := by
  have h1 := any_self h.mal
  unfold E.mal occ at h1
  simp at h1
  exact ⟨h1.1.1, h1.1.2, h1.2⟩
/-- the operator with two literals -/
theorem Ok.own {op : Int} {a a' : Option Addr} {c c' : Nat} {x y : E} {b1 b2 : Option Addr} {c1 c2 : Nat} (h : Ok nmB (.mk op 0 ⟨#[]⟩ a c [x, y])) (h5 : op ≠ 5) : Ok nmB (.mk op 0 ⟨#[]⟩ a' c' [.mk 0 0 ⟨#[]⟩ b1 c1 [], .mk 0 1 ⟨#[]⟩ b2 c2 []]) := by
  obtain ⟨f1, f2, f3⟩ := h.form
  unfold E.form at f3
  simp only [Bool.and_eq_true] at f3
  obtain ⟨⟨g1, g2⟩, g3⟩ := f3
  have g2' := of_decide_eq_true g2
  have ho : (E.mk op 0 ⟨#[]⟩ a c [x, y]).op = op := rfl
  rw [ho] at g2' f1 f2
  have h4 : op ≠ 4 := by
    rintro rfl
    exact absurd g2' (by show ¬ (2 = 1); decide)
  have hm : E.mal (.mk op 0 ⟨#[]⟩ a' c' [.mk 0 0 ⟨#[]⟩ b1 c1 [], .mk 0 1 ⟨#[]⟩ b2 c2 []]) = false := by
    have e1 : occ op = true := by unfold occ; simp; exact ⟨f1, f2⟩
    have e2 : E.form (.mk op 0 ⟨#[]⟩ a' c' [.mk 0 0 ⟨#[]⟩ b1 c1 [], .mk 0 1 ⟨#[]⟩ b2 c2 []]) = true := by
      unfold E.form
      simp only [Bool.and_eq_true]
      refine ⟨⟨g1, g2⟩, ?_⟩
      have : (decide ((E.mk op 0 ⟨#[]⟩ a' c' [.mk 0 0 ⟨#[]⟩ b1 c1 [], .mk 0 1 ⟨#[]⟩ b2 c2 []]).op ≠ 4 ∧ (E.mk op 0 ⟨#[]⟩ a' c' [.mk 0 0 ⟨#[]⟩ b1 c1 [], .mk 0 1 ⟨#[]⟩ b2 c2 []]).op ≠ 5)) = true := decide_eq_true ⟨h4, h5⟩
      rw [this]; rfl
    unfold E.mal
    rw [e2]
    show (!occ op || !true) = false
    rw [e1]; rfl
  have hs : E.mis nmB (.mk op 0 ⟨#[]⟩ a' c' [.mk 0 0 ⟨#[]⟩ b1 c1 [], .mk 0 1 ⟨#[]⟩ b2 c2 []]) = false := by
    have := any_self h.mis
    exact this
  have hu : E.out (.mk op 0 ⟨#[]⟩ a' c' [.mk 0 0 ⟨#[]⟩ b1 c1 [], .mk 0 1 ⟨#[]⟩ b2 c2 []]) = false := by
    have := any_self h.out
    exact this
  have l0 : ∀ (p : E → Bool) (b : Option Addr) (c n), (E.mk 0 n ⟨#[]⟩ b c []).any p = p (E.mk 0 n ⟨#[]⟩ b c []) := fun p b c n => by simp [any, anyL]
  refine ⟨by simp [E.nodes, nodesL], by simp [E.dep, depL], ?_, ?_, ?_⟩
  · rw [any_eq, hm]
    simp only [ks, anyL, l0]
    simp [E.mal, occ, E.op, E.form, sub, flds, E.n, E.nm, ks, uses, arity, ByteArray.size]
  · rw [any_eq, hs]
    simp only [ks, anyL, l0]
    simp [E.mis, E.op]
  · rw [any_eq, hu]
    simp only [ks, anyL, l0]
    simp [E.out, E.op, E.n]
end Go.Proofs.YtmemkcaikajnnaaGreatDoor.E
