/- Plain: when a type is well formed, as the package and as the reference ask it. Of no program. -/
import Derived.Test.YtlifnabeilnblaaGreatDoorTree
namespace Go.Proofs.YtlifnabeilnblaaGreatDoor.G
set_option linter.unusedVariables false

theorem nodesL_snoc (l : List G) (e : G) : nodesL (l ++ [e]) = nodesL l + e.nodes := by
  induction l with
  | nil => simp [nodesL]
  | cons a l ih => simp only [List.cons_append, nodesL, ih]; omega
theorem nodesL_take (l : List G) (i : Nat) : nodesL (l.take i) ≤ nodesL l := by
  have := List.take_append_drop i l
  conv => rhs; rw [← this]
  generalize l.drop i = r
  generalize l.take i = a
  induction a with
  | nil => simp [nodesL]
  | cons x a ih => simp only [List.cons_append, nodesL]; omega
theorem any_kid {p : G → Bool} {e k : G} (h : e.any p = false) (hk : k ∈ e.ks) : k.any p = false := by
  rw [any_eq, Bool.or_eq_false_iff] at h
  exact anyL_false.1 h.2 k hk
theorem any_self {p : G → Bool} {e : G} (h : e.any p = false) : p e = false := by
  rw [any_eq, Bool.or_eq_false_iff] at h
  exact h.1
theorem any_mk {p : G → Bool} {e : G} (h : p e = false) (h2 : ∀ k ∈ e.ks, k.any p = false) : e.any p = false := by
  rw [any_eq, Bool.or_eq_false_iff]
  exact ⟨h, anyL_false.2 h2⟩
theorem any_congr2 {m p q : G → Bool} (h : ∀ e, m e = false → p e = q e) (e : G) : e.any m = false → e.any p = e.any q := by
  induction e using G.ind with
  | h e ih =>
    intro hm
    rw [any_eq, any_eq, h e (any_self hm)]
    congr 1
    have key : ∀ l : List G, (∀ k ∈ l, k.any p = k.any q) → anyL p l = anyL q l := by
      intro l
      induction l with
      | nil => intro _; simp [anyL]
      | cons a l ihl =>
        intro hh
        simp only [anyL]
        rw [hh a (by simp), ihl (fun k hk => hh k (by simp [hk]))]
    exact key e.ks fun k hk => ih k hk (any_kid hm hk)
theorem any_congr {p q : G → Bool} (h : ∀ e, p e = q e) (e : G) : e.any p = e.any q := by
  have : p = q := funext h
  rw [this]
theorem any_imp {p q : G → Bool} (h : ∀ e, p e = false → q e = false) (e : G) : e.any p = false → e.any q = false := by
  induction e using G.ind with
  | h e ih => exact fun hm => any_mk (h e (any_self hm)) fun k hk => ih k hk (any_kid hm hk)

/-! ### the tables -/
/-- the fields that a kind uses: 2 its name, 8 its bounds, 16 its size, 32 its names, 64 its components -/
def uses (k : Int) : Nat := if k = 0 then 0 else if k = 1 then 8 else if k = 2 then 80 else if k = 3 then 96 else 2
def occ (k : Int) : Bool := decide (0 ≤ k) && decide (k < 5)
/-- is a number not 0? -/
def bnd (e : G) : Bool := e.lo != 0 || e.hi != 0
def flds (e : G) : Nat := (if e.bnd then 8 else 0) + (if e.sz ≠ 0 then 16 else 0) + (if e.nm.size ≠ 0 then 2 else 0) + (if e.ns.length ≠ 0 then 32 else 0) + (if e.ks.length ≠ 0 then 64 else 0)
def sub (a b : Nat) : Bool := a &&& b == a
def form (e : G) : Bool := sub (flds e) (uses e.kd) && (decide (e.kd ≠ 2) || decide (e.ks.length = 1)) && (decide (e.kd ≠ 3) || (decide (1 ≤ e.ks.length) && decide (e.ks.length = e.ns.length)))
def mal (e : G) : Bool := !occ e.kd || !form e
def named (nmB : ByteArray → Bool) (e : G) : Bool := (decide (e.kd ≠ 3) || e.ns.all nmB) && (decide (e.kd ≠ 4) || nmB e.nm)
def mis (nmB : ByteArray → Bool) (e : G) : Bool := !named nmB e
def ival (lo hi : Int) : Bool := decide (lo ≤ hi) && (decide (-1048576 ≤ lo) && decide (lo ≤ 1048576)) && (decide (-1048576 ≤ hi) && decide (hi ≤ 1048576))
def inr (e : G) : Bool := (decide (e.kd ≠ 1) || ival e.lo e.hi) && (decide (e.kd ≠ 2) || (decide (1 ≤ e.sz) && decide (e.sz ≤ 32))) && (decide (e.kd ≠ 3) || decide (e.ks.length ≤ 32))
def out (e : G) : Bool := !inr e
/-- three faults as a number -/
def fv (a b c : Bool) : Nat := (if a then 1 else 0) + (if b then 2 else 0) + (if c then 4 else 0)
theorem fv_or (a b c a' b' c' : Bool) : fv a b c ||| fv a' b' c' = fv (a || a') (b || b') (c || c') := by
  cases a <;> cases b <;> cases c <;> cases a' <;> cases b' <;> cases c' <;> rfl
theorem fv_le (a b c : Bool) : fv a b c ≤ 7 := by cases a <;> cases b <;> cases c <;> decide
/-- the code of a type -/
def chk (nmB : ByteArray → Bool) (e : G) : Int :=
  if 1024 < e.nodes ∨ 12 < e.dep then 4 else if e.any mal then 1 else if e.any (mis nmB) then 7 else if e.any out then 3 else 0
variable {nmB : ByteArray → Bool}
theorem occ_no {e : G} (h : occ e.kd = false) : named nmB e = true ∧ inr e = true := by
  unfold occ at h
  rw [Bool.and_eq_false_iff, decide_eq_false_iff_not, decide_eq_false_iff_not] at h
  have k1 : e.kd ≠ 1 := by rintro q; rw [q] at h; omega
  have k2 : e.kd ≠ 2 := by rintro q; rw [q] at h; omega
  have k3 : e.kd ≠ 3 := by rintro q; rw [q] at h; omega
  have k4 : e.kd ≠ 4 := by rintro q; rw [q] at h; omega
  unfold named inr
  simp [k1, k2, k3, k4]
/-- the check came out well -/
structure Ok (nmB : ByteArray → Bool) (e : G) : Prop where
  nodes : e.nodes ≤ 1024
  dep : e.dep ≤ 12
  mal : e.any mal = false
  mis : e.any (mis nmB) = false
  out : e.any out = false
theorem chk_ok {e : G} : chk nmB e = 0 ↔ Ok nmB e := by
  unfold chk
  constructor
  · intro h
    by_cases h1 : 1024 < e.nodes ∨ 12 < e.dep
    · rw [if_pos h1] at h; exact absurd h (by decide)
    rw [if_neg h1] at h
    cases h2 : e.any G.mal with
    | true => rw [h2] at h; simp at h
    | false =>
    cases h3 : e.any (G.mis nmB) with
    | true => rw [h2, h3] at h; simp at h
    | false =>
    cases h4 : e.any G.out with
    | true => rw [h2, h3, h4] at h; simp at h
    | false => exact ⟨by omega, by omega, h2, h3, h4⟩
  · intro h
    rw [if_neg (by have := h.nodes; have := h.dep; omega), h.mal, h.mis, h.out]; rfl
theorem Ok.kid {e k : G} (h : Ok nmB e) (hk : k ∈ e.ks) : Ok nmB k := by
  have h1 := h.nodes
  have h2 := h.dep
  have h3 := nodesL_mem hk
  have h4 := depL_mem hk
  rw [nodes_eq] at h1
  rw [dep_eq] at h2
  exact ⟨by omega, by omega, any_kid h.mal hk, any_kid h.mis hk, any_kid h.out hk⟩
theorem chk_code (e : G) : chk nmB e = 4 ∨ chk nmB e = 1 ∨ chk nmB e = 7 ∨ chk nmB e = 3 ∨ chk nmB e = 0 := by
  unfold chk
  repeat' split
  all_goals simp
/-- what a form says -/
structure Fm (e : G) : Prop where
  k0 : 0 ≤ e.kd
  k5 : e.kd < 5
  bnd : e.kd ≠ 1 → e.lo = 0 ∧ e.hi = 0
  sz : e.kd ≠ 2 → e.sz = 0
  nm : e.kd ≠ 4 → e.nm.size = 0
  ns : e.kd ≠ 3 → e.ns.length = 0
  ks : e.kd ≠ 2 → e.kd ≠ 3 → e.ks.length = 0
  ar : e.kd = 2 → e.ks.length = 1
  rc : e.kd = 3 → 1 ≤ e.ks.length ∧ e.ks.length = e.ns.length
theorem flds_sub (a b c d f : Bool) (k : Int) (h0 : 0 ≤ k) (h5 : k < 5) : sub ((if a then 8 else 0) + (if b then 16 else 0) + (if c then 2 else 0) + (if d then 32 else 0) + (if f then 64 else 0)) (uses k) = ((decide (k = 1) || !a) && (decide (k = 2) || !b) && (decide (k = 4) || !c) && (decide (k = 3) || !d) && (decide (k = 2) || decide (k = 3) || !f)) := by
  obtain rfl | rfl | rfl | rfl | rfl : k = 0 ∨ k = 1 ∨ k = 2 ∨ k = 3 ∨ k = 4 := by omega
  all_goals cases a <;> cases b <;> cases c <;> cases d <;> cases f <;> decide
theorem flds_eq (e : G) : flds e = (if e.bnd then 8 else 0) + (if (decide (e.sz ≠ 0)) then 16 else 0) + (if (decide (e.nm.size ≠ 0)) then 2 else 0) + (if (decide (e.ns.length ≠ 0)) then 32 else 0) + (if (decide (e.ks.length ≠ 0)) then 64 else 0) := by
  unfold flds; simp
theorem mal_iff (e : G) : e.mal = false ↔ Fm e := by
  unfold G.mal G.form
  simp only [Bool.or_eq_false_iff, Bool.not_eq_false']
  constructor
  · rintro ⟨ho, h⟩
    unfold occ at ho
    simp only [Bool.and_eq_true, decide_eq_true_eq] at ho
    obtain ⟨h0, h5⟩ := ho
    rw [flds_eq, flds_sub _ _ _ _ _ _ h0 h5] at h
    unfold G.bnd at h
    simp only [Bool.and_eq_true, Bool.or_eq_true, decide_eq_true_eq, Bool.not_eq_true', decide_eq_false_iff_not, Bool.or_eq_false_iff, bne_eq_false_iff_eq] at h
    obtain ⟨⟨⟨⟨⟨⟨a1, a2⟩, a3⟩, a4⟩, a5⟩, a6⟩, a7⟩ := h
    exact ⟨h0, h5, fun k => a1.resolve_left k, fun k => by have := a2.resolve_left k; omega, fun k => by have := a3.resolve_left k; omega, fun k => by have := a4.resolve_left k; omega, fun k k' => by
      have := a5.resolve_left (fun h => by rcases h with h | h <;> omega); omega, fun k => a6.resolve_left (fun h => h k), fun k => a7.resolve_left (fun h => h k)⟩
  · intro h
    have ho : occ e.kd = true := by unfold occ; simp [h.k0, h.k5]
    refine ⟨ho, ?_⟩
    rw [flds_eq, flds_sub _ _ _ _ _ _ h.k0 h.k5]
    unfold G.bnd
    simp only [Bool.and_eq_true, Bool.or_eq_true, decide_eq_true_eq, Bool.not_eq_true', decide_eq_false_iff_not, Bool.or_eq_false_iff, bne_eq_false_iff_eq]
    have q1 := h.bnd
    have q2 := h.sz
    have q3 := h.nm
    have q4 := h.ns
    have q5 := h.ks
    have q6 := h.ar
    have q7 := h.rc
    refine ⟨⟨⟨⟨⟨⟨?_, ?_⟩, ?_⟩, ?_⟩, ?_⟩, ?_⟩, ?_⟩ <;> omega

/-! ### the reference -/
def rform1 (e : G) : Bool :=
  decide (0 ≤ e.kd) && decide (e.kd ≤ 4) && (decide (e.kd = 1) || (decide (e.lo = 0) && decide (e.hi = 0))) && (decide (e.kd = 2) || decide (e.sz = 0)) && (decide (e.kd = 4) || decide (e.nm.size = 0)) && (decide (e.kd = 3) || decide (e.ns.length = 0))
  && (decide (e.kd ≠ 2) || decide (e.ks.length = 1)) && (decide (e.kd ≠ 3) || (decide (1 ≤ e.ks.length) && decide (e.ks.length = e.ns.length))) && (decide (e.kd = 2) || decide (e.kd = 3) || decide (e.ks.length = 0))
theorem rform1_iff (e : G) : rform1 e = true ↔ Fm e := by
  unfold rform1
  simp only [Bool.and_eq_true, Bool.or_eq_true, decide_eq_true_eq]
  constructor
  · rintro ⟨⟨⟨⟨⟨⟨⟨⟨a0, a1⟩, a2⟩, a3⟩, a4⟩, a5⟩, a6⟩, a7⟩, a8⟩
    exact ⟨a0, by omega, by omega, by omega, by omega, by omega, by omega, by omega, by omega⟩
  · intro h
    have q1 := h.bnd
    have q2 := h.sz
    have q3 := h.nm
    have q4 := h.ns
    have q5 := h.ks
    have q6 := h.ar
    have q7 := h.rc
    have q8 := h.k0
    have q9 := h.k5
    refine ⟨⟨⟨⟨⟨⟨⟨⟨?_, ?_⟩, ?_⟩, ?_⟩, ?_⟩, ?_⟩, ?_⟩, ?_⟩, ?_⟩ <;> omega
theorem mal_rform (e : G) : e.mal = !rform1 e := by
  have h1 := mal_iff e
  have h2 := rform1_iff e
  cases hm : e.mal with
  | false => rw [h2.2 (h1.1 hm)]; rfl
  | true =>
    cases hr : rform1 e with
    | false => rfl
    | true => rw [h1.2 (h2.1 hr)] at hm; exact absurd hm (by decide)
def rname1 (nmB : ByteArray → Bool) (e : G) : Bool := (decide (e.kd ≠ 4) || nmB e.nm) && e.ns.all nmB
def rnum1 (e : G) : Bool :=
  (decide (e.kd ≠ 1) || (decide (-1048576 ≤ e.lo) && decide (e.lo ≤ 1048576) && (decide (-1048576 ≤ e.hi) && decide (e.hi ≤ 1048576)) && decide (e.lo ≤ e.hi))) && (decide (e.kd ≠ 2) || (decide (1 ≤ e.sz) && decide (e.sz ≤ 32))) && decide (e.ks.length ≤ 32)
theorem mis_rname (e : G) (h : e.mal = false) : mis nmB e = !rname1 nmB e := by
  have f := (mal_iff e).1 h
  unfold mis named rname1
  congr 1
  by_cases h3 : e.kd = 3
  · rw [h3]; simp
  · rw [List.eq_nil_of_length_eq_zero (f.ns h3)]
    simp [h3]
theorem out_rnum (e : G) (h : e.mal = false) : out e = !rnum1 e := by
  have f := (mal_iff e).1 h
  unfold out inr rnum1
  congr 1
  have q5 := f.ks
  have q6 := f.ar
  have hk : (decide (e.kd ≠ 3) || decide (e.ks.length ≤ 32)) = decide (e.ks.length ≤ 32) := by
    by_cases h3 : e.kd = 3
    · simp [h3]
    · have : e.ks.length ≤ 32 := by
        by_cases h2 : e.kd = 2
        · have := q6 h2; omega
        · have := q5 h2 h3; omega
      simp [this]
  rw [hk]
  congr 2
  unfold ival
  rw [Bool.eq_iff_iff]
  simp only [Bool.and_eq_true, Bool.or_eq_true, decide_eq_true_eq]
  omega
/-- all nodes -/
def allN (p : G → Bool) (e : G) : Bool := !e.any fun x => !p x
theorem anyL_any (q : G → Bool) (l : List G) : anyL q l = l.any (any q) := by
  induction l with
  | nil => simp [anyL]
  | cons a l ih => simp [anyL, ih]
theorem allN_eq (p : G → Bool) (e : G) : allN p e = (p e && e.ks.all (allN p)) := by
  unfold allN
  rw [any_eq, anyL_any, Bool.not_or, Bool.not_not, List.not_any_eq_all_not]
def rform : G → Bool := allN rform1
def rnames (nmB : ByteArray → Bool) : G → Bool := allN (rname1 nmB)
def rnumbers : G → Bool := allN rnum1
theorem rform_eq (e : G) : e.rform = (rform1 e && e.ks.all rform) := allN_eq rform1 e
theorem rnames_eq (nmB : ByteArray → Bool) (e : G) : rnames nmB e = (rname1 nmB e && e.ks.all (rnames nmB)) := allN_eq (rname1 nmB) e
theorem rnumbers_eq (e : G) : e.rnumbers = (rnum1 e && e.ks.all rnumbers) := allN_eq rnum1 e
/-- the reference's code -/
def rchk (nmB : ByteArray → Bool) (e : G) : Int := if 1024 < e.nodes ∨ 12 < e.dep then 4 else if !e.rform then 1 else if !rnames nmB e then 7 else if !e.rnumbers then 3 else 0
theorem chk_rchk (e : G) : chk nmB e = rchk nmB e := by
  unfold chk rchk rform rnames rnumbers allN
  rw [Bool.not_not, Bool.not_not, Bool.not_not]
  have h1 : e.any G.mal = e.any fun x => !rform1 x := any_congr mal_rform e
  by_cases hs : 1024 < e.nodes ∨ 12 < e.dep
  · rw [if_pos hs, if_pos hs]
  rw [if_neg hs, if_neg hs]
  rw [← h1]
  cases hm : e.any G.mal with
  | true => rfl
  | false =>
    have h2 := any_congr2 (fun x hx => mis_rname (nmB := nmB) x hx) e hm
    have h3 := any_congr2 out_rnum e hm
    rw [h2, h3]
end Go.Proofs.YtlifnabeilnblaaGreatDoor.G
