/- The reference's check of an expression, plain: it says what the package's check says. Of no program. -/
import Derived.Test.YtmemkcaikajnnaaGreatDoorCk
namespace Go.Proofs.YtmemkcaikajnnaaGreatDoor.E
set_option linter.unusedVariables false

variable {nmB : ByteArray → Bool}
mutual
/-- a place by its operators -/
def rplace : E → Bool | .mk o _ _ _ _ k => o == 3 || ((o == 4 || o == 5) && rplaceH k)
def rplaceH : List E → Bool | [] => false | e :: _ => rplace e
end
theorem rplace_eq (e : E) : e.rplace = (e.op == 3 || ((e.op == 4 || e.op == 5) && rplaceH e.ks)) := by cases e; simp [rplace, op, ks]
def arity1 (o : Int) : Int := if occ o then (arity o : Int) else -1
/-- the form of a node alone, as the reference asks it -/
def rform1 (e : E) : Bool := (arity1 e.op == (e.ks.length : Int)) && (e.op == 0 || e.n == 0) && (e.op == 3 || e.op == 4 || decide (e.nm.size = 0)) && (!(e.op == 4 || e.op == 5) || e.rplace)
/-- all nodes -/
def rform (e : E) : Bool := !e.any fun x => !rform1 x
theorem mal_form {e : E} (h : e.mal = false) : 0 ≤ e.op ∧ e.op < 24 ∧ e.ks.length = arity e.op ∧ (e.op ≠ 0 → e.n = 0) ∧ (e.op ≠ 3 → e.op ≠ 4 → e.nm.size = 0) ∧ (e.op = 4 ∨ e.op = 5 → hd e.ks = true) := by
  unfold E.mal occ E.form at h
  simp only [Bool.or_eq_false_iff, Bool.not_eq_false', Bool.and_eq_true, decide_eq_true_eq] at h
  obtain ⟨⟨h1, h2⟩, ⟨h3, h4⟩, h5⟩ := h
  refine ⟨h1, h2, h4, ?_, ?_, ?_⟩
  · intro h0
    apply Classical.byContradiction
    intro hn
    unfold sub flds uses at h3
    rw [if_pos hn, if_neg h0] at h3
    revert h3
    repeat' split
    all_goals decide
  · intro h0 h4'
    apply Classical.byContradiction
    intro hn
    unfold sub flds uses at h3
    rw [if_pos hn, if_neg h0, if_neg h4'] at h3
    revert h3
    repeat' split
    all_goals decide
  · intro ho
    rcases Bool.or_eq_true_iff.1 h5 with h6 | h6
    · have := of_decide_eq_true h6; omega
    · exact h6
theorem mal_mk {e : E} (h1 : 0 ≤ e.op) (h2 : e.op < 24) (h3 : e.ks.length = arity e.op) (h4 : e.op ≠ 0 → e.n = 0) (h5 : e.op ≠ 3 → e.op ≠ 4 → e.nm.size = 0) (h6 : e.op = 4 ∨ e.op = 5 → hd e.ks = true) : e.mal = false := by
  unfold E.mal occ E.form
  simp only [Bool.or_eq_false_iff, Bool.not_eq_false', Bool.and_eq_true, decide_eq_true_eq]
  refine ⟨⟨h1, h2⟩, ⟨?_, h3⟩, ?_⟩
  · unfold sub flds uses
    by_cases o0 : e.op = 0
    · have k0 : e.ks.length = 0 := by rw [h3, o0]; rfl
      have s0 : e.nm.size = 0 := h5 (by omega) (by omega)
      rw [k0, s0, o0]
      by_cases hn : e.n = 0 <;> simp [hn]
    · have n0 := h4 o0
      by_cases o12 : e.op = 1 ∨ e.op = 2
      · have k0 : e.ks.length = 0 := by rw [h3]; rcases o12 with o | o <;> rw [o] <;> rfl
        have s0 : e.nm.size = 0 := h5 (by omega) (by omega)
        rw [k0, s0, n0, if_neg o0, if_pos o12]; rfl
      · by_cases o3 : e.op = 3
        · have k0 : e.ks.length = 0 := by rw [h3, o3]; rfl
          rw [k0, n0, o3]
          by_cases hs : e.nm.size = 0 <;> simp [hs]
        · by_cases o4 : e.op = 4
          · rw [n0, o4]
            by_cases hs : e.nm.size = 0 <;> by_cases hk : e.ks.length = 0 <;> simp [hs, hk]
          · have s0 := h5 o3 o4
            rw [n0, s0, if_neg o0, if_neg o12, if_neg o3, if_neg o4]
            by_cases hk : e.ks.length = 0 <;> simp [hk]
  · by_cases ho : e.op = 4 ∨ e.op = 5
    · rw [h6 ho]; simp
    · have : decide (e.op ≠ 4 ∧ e.op ≠ 5) = true := decide_eq_true (by omega)
      rw [this]; rfl
theorem place_deep {e : E} (h : e.any E.mal = false) (hp : e.place = true) : e.rplace = true := by
  revert h hp
  induction e using E.ind with
  | h e ih =>
    intro h hp
    unfold place at hp
    simp only [Bool.and_eq_true, decide_eq_true_eq] at hp
    rw [rplace_eq]
    by_cases h3 : e.op = 3
    · rw [h3]; rfl
    · have hm := mal_form (any_self h)
      have hh := hm.2.2.2.2.2 (by omega)
      cases hk : e.ks with
      | nil => rw [hk] at hh; exact absurd hh (by decide)
      | cons k l =>
        rw [hk] at hh
        have hmem : k ∈ e.ks := by rw [hk]; simp
        have := ih k hmem (any_kid h hmem) hh
        have e1 : (e.op == 4 || e.op == 5) = true := by
          rw [Bool.or_eq_true, beq_iff_eq, beq_iff_eq]; omega
        rw [e1]
        show (e.op == 3 || (true && rplace k)) = true
        rw [this]; simp
theorem deep_place {e : E} (h : e.rplace = true) : e.place = true := by
  rw [rplace_eq] at h
  unfold place
  simp only [Bool.and_eq_true, decide_eq_true_eq]
  simp only [Bool.or_eq_true, Bool.and_eq_true, beq_iff_eq] at h
  omega
theorem form_iff (e : E) : e.any E.mal = !e.rform := by
  unfold rform
  rw [Bool.not_not]
  induction e using E.ind with
  | h e ih =>
    have hl : anyL E.mal e.ks = anyL (fun x => !rform1 x) e.ks := by
      have key : ∀ l : List E, (∀ k ∈ l, k.any E.mal = k.any fun x => !rform1 x) → anyL E.mal l = anyL (fun x => !rform1 x) l := by
        intro l
        induction l with
        | nil => intro _; simp [anyL]
        | cons a l ihl =>
          intro h
          simp only [anyL]
          rw [h a (by simp), ihl (fun k hk => h k (by simp [hk]))]
      exact key e.ks ih
    rw [any_eq, any_eq, ← hl]
    cases hk : anyL E.mal e.ks with
    | true => simp
    | false =>
      rw [Bool.or_false, Bool.or_false]
      have hkid : ∀ k ∈ e.ks, k.any E.mal = false := anyL_false.1 hk
      rw [Bool.eq_iff_iff]
      constructor
      · intro hm
        apply Classical.byContradiction
        intro hr
        have hr' : rform1 e = true := by simpa using hr
        unfold rform1 at hr'
        simp only [Bool.and_eq_true, Bool.or_eq_true, beq_iff_eq, decide_eq_true_eq, Bool.not_eq_true', Bool.or_eq_false_iff, beq_eq_false_iff_ne] at hr'
        obtain ⟨⟨⟨h1, h2⟩, h3⟩, h4⟩ := hr'
        have ho : occ e.op = true := by
          apply Classical.byContradiction
          intro hn
          unfold arity1 at h1
          rw [if_neg hn] at h1; omega
        unfold arity1 at h1
        rw [if_pos ho] at h1
        unfold occ at ho
        simp only [Bool.and_eq_true, decide_eq_true_eq] at ho
        have := mal_mk (e := e) ho.1 ho.2 (by omega) (by omega) (by omega) (fun h45 => by
          have hp : e.rplace = true := by
            rcases h4 with h4 | h4
            · omega
            · exact h4
          rw [rplace_eq] at hp
          simp only [Bool.or_eq_true, Bool.and_eq_true, beq_iff_eq] at hp
          have hh : rplaceH e.ks = true := by
            rcases hp with hp | hp
            · omega
            · exact hp.2
          cases hks : e.ks with
          | nil => rw [hks] at hh; simp [rplaceH] at hh
          | cons k l => rw [hks] at hh; simp only [rplaceH] at hh; exact deep_place hh)
        rw [this] at hm; exact absurd hm (by decide)
      · intro hr
        apply Classical.byContradiction
        intro hm
        have hm' : e.mal = false := by simpa using hm
        obtain ⟨h1, h2, h3, h4, h5, h6⟩ := mal_form hm'
        have : rform1 e = true := by
          unfold rform1
          simp only [Bool.and_eq_true, Bool.or_eq_true, beq_iff_eq, decide_eq_true_eq, Bool.not_eq_true', Bool.or_eq_false_iff, beq_eq_false_iff_ne]
          refine ⟨⟨⟨?_, by omega⟩, by omega⟩, ?_⟩
          · unfold arity1 occ
            rw [if_pos (by simp only [Bool.and_eq_true, decide_eq_true_eq]; exact ⟨h1, h2⟩)]; omega
          · by_cases h45 : e.op = 4 ∨ e.op = 5
            · right
              refine place_deep ?_ ?_
              · rw [any_eq, hm', hk]; rfl
              · unfold place; simp only [Bool.and_eq_true, decide_eq_true_eq]; omega
            · left; omega
        rw [this] at hr; exact absurd hr (by decide)
def rname1 (nmB : ByteArray → Bool) (e : E) : Bool := !((e.op == 3 || e.op == 4) && !nmB e.nm)
def rnames (nmB : ByteArray → Bool) (e : E) : Bool := !e.any fun x => !rname1 nmB x
theorem any_congr {p q : E → Bool} (h : ∀ e, p e = q e) (e : E) : e.any p = e.any q := by
  have : p = q := funext h
  rw [this]
theorem names_iff (e : E) : e.any (E.mis nmB) = !e.rnames nmB := by
  unfold rnames
  rw [Bool.not_not]
  refine any_congr (fun e => ?_) e
  unfold E.mis rname1
  rw [Bool.not_not]
  cases h : (e.op == 3 || e.op == 4) with
  | false => simp
  | true =>
    have : occ e.op = true := by
      simp only [Bool.or_eq_true, beq_iff_eq] at h
      unfold occ; simp only [Bool.and_eq_true, decide_eq_true_eq]; omega
    rw [this]; rfl
def rnum1 (e : E) : Bool := !(e.op == 0 && (decide (e.n < 0) || decide (1048576 < e.n)))
def rnumbers (e : E) : Bool := !e.any fun x => !rnum1 x
theorem numbers_iff (e : E) : e.any E.out = !e.rnumbers := by
  unfold rnumbers
  rw [Bool.not_not]
  refine any_congr (fun e => ?_) e
  unfold E.out rnum1
  rw [Bool.not_not]
  congr 1
  by_cases h1 : e.n < 0 <;> by_cases h2 : 1048576 < e.n
  all_goals simp only [h1, h2, decide_true, decide_false]
  all_goals (try omega)
  · have : ¬ 0 ≤ e.n := by omega
    simp [this]
  · have : ¬ e.n ≤ 1048576 := by omega
    simp [this]
  · have a1 : 0 ≤ e.n := by omega
    have a2 : e.n ≤ 1048576 := by omega
    simp [a1, a2]
/-- the reference's code -/
def rchk (nmB : ByteArray → Bool) (e : E) : Int := if 1024 < e.nodes ∨ 12 < e.dep then 4 else if !e.rform then 1 else if !e.rnames nmB then 7 else if !e.rnumbers then 3 else 0
theorem chk_rchk (e : E) : chk nmB e = rchk nmB e := by
  unfold chk rchk
  rw [form_iff, names_iff, numbers_iff]
end Go.Proofs.YtmemkcaikajnnaaGreatDoor.E
