/- Expression trees as plain data: what the walks over package syntax and package cost speak of. Of no program. -/
import Derived.WalkKit
namespace Go.Proofs.YtmemkcaikajnnaaGreatDoor
set_option linter.unusedVariables false

/-- an expression: operator, number, name, where its kids lie, the capacity of their slice, the kids -/
inductive E where
  | mk (op n : Int) (nm : ByteArray) (a : Option Addr) (cap : Nat) (ks : List E)

namespace E
def op : E → Int | .mk o _ _ _ _ _ => o
def n : E → Int | .mk _ n _ _ _ _ => n
def nm : E → ByteArray | .mk _ _ s _ _ _ => s
def ad : E → Option Addr | .mk _ _ _ a _ _ => a
def cap : E → Nat | .mk _ _ _ _ c _ => c
def ks : E → List E | .mk _ _ _ _ _ k => k

mutual
/-- nodes -/
def nodes : E → Nat | .mk _ _ _ _ _ k => nodesL k + 1
def nodesL : List E → Nat | [] => 0 | e :: l => e.nodes + nodesL l
end
mutual
/-- depth -/
def dep : E → Nat | .mk _ _ _ _ _ k => depL k + 1
def depL : List E → Nat | [] => 0 | e :: l => max e.dep (depL l)
end
theorem nodes_eq (e : E) : e.nodes = nodesL e.ks + 1 := by cases e; simp [nodes, ks]
theorem dep_eq (e : E) : e.dep = depL e.ks + 1 := by cases e; simp [dep, ks]
theorem nodes_pos (e : E) : 1 ≤ e.nodes := by rw [nodes_eq]; omega
theorem nodesL_snoc (l : List E) (e : E) : nodesL (l ++ [e]) = nodesL l + e.nodes := by
  induction l with
  | nil => simp [nodesL]
  | cons a l ih => simp only [List.cons_append, nodesL, ih]; omega
theorem depL_snoc (l : List E) (e : E) : depL (l ++ [e]) = max (depL l) e.dep := by
  induction l with
  | nil => simp [depL]
  | cons a l ih => simp only [List.cons_append, depL, ih]; omega
theorem nodesL_mem {l : List E} {e : E} (h : e ∈ l) : e.nodes ≤ nodesL l := by
  induction l with
  | nil => cases h
  | cons a l ih =>
    simp only [nodesL]
    rcases List.mem_cons.1 h with rfl | h
    · omega
    · have := ih h; omega
theorem depL_mem {l : List E} {e : E} (h : e ∈ l) : e.dep ≤ depL l := by
  induction l with
  | nil => cases h
  | cons a l ih =>
    simp only [depL]
    rcases List.mem_cons.1 h with rfl | h
    · omega
    · have := ih h; omega

theorem nodesL_take (l : List E) (i : Nat) : nodesL (l.take i) ≤ nodesL l := by
  have := List.take_append_drop i l
  conv => rhs; rw [← this]
  generalize l.drop i = r
  generalize l.take i = a
  induction a with
  | nil => simp [nodesL]
  | cons x a ih => simp only [List.cons_append, nodesL]; omega
theorem depL_take (l : List E) (i : Nat) : depL (l.take i) ≤ depL l := by
  have := List.take_append_drop i l
  conv => rhs; rw [← this]
  generalize l.drop i = r
  generalize l.take i = a
  induction a with
  | nil => simp [depL]
  | cons x a ih => simp only [List.cons_append, depL]; omega
mutual
/-- the sum of a number of each node -/
def sum (f : Int → Int) : E → Int | .mk o _ _ _ _ k => f o + sumL f k
def sumL (f : Int → Int) : List E → Int | [] => 0 | e :: l => e.sum f + sumL f l
end
theorem sum_eq (f : Int → Int) (e : E) : e.sum f = f e.op + sumL f e.ks := by cases e; simp [sum, ks, op]
theorem sumL_snoc (f : Int → Int) (l : List E) (e : E) : sumL f (l ++ [e]) = sumL f l + e.sum f := by
  induction l with
  | nil => simp [sumL]
  | cons a l ih => simp only [List.cons_append, sumL, ih]; omega

mutual
/-- does something hold of a node? -/
def any (p : E → Bool) : E → Bool | .mk o n s a c k => p (.mk o n s a c k) || anyL p k
def anyL (p : E → Bool) : List E → Bool | [] => false | e :: l => e.any p || anyL p l
end
theorem any_eq (p : E → Bool) (e : E) : e.any p = (p e || anyL p e.ks) := by cases e; simp [any, ks]
theorem anyL_snoc (p : E → Bool) (l : List E) (e : E) : anyL p (l ++ [e]) = (anyL p l || e.any p) := by
  induction l with
  | nil => simp [anyL]
  | cons a l ih => simp only [List.cons_append, anyL, ih]; rw [Bool.or_assoc]
theorem anyL_false {p : E → Bool} {l : List E} : anyL p l = false ↔ ∀ e ∈ l, e.any p = false := by
  induction l with
  | nil => simp [anyL]
  | cons a l ih => simp [anyL, ih]

/-- induction: what holds of a tree if it holds of its kids -/
theorem ind {P : E → Prop} (h : ∀ e : E, (∀ k ∈ e.ks, P k) → P e) (e : E) : P e := by
  have key : ∀ n, ∀ e : E, e.nodes ≤ n → P e := by
    intro n
    induction n with
    | zero => intro e he; have := nodes_pos e; omega
    | succ n ih =>
      intro e he
      refine h e fun k hk => ih k ?_
      have := nodesL_mem hk
      rw [nodes_eq] at he; omega
  exact key _ e (Nat.le_refl _)

/-! ### the tables -/
/-- the fields that an operator uses: 1 its number, 2 its name, 4 its kids -/
def uses (o : Int) : Nat := if o = 0 then 1 else if o = 1 ∨ o = 2 then 0 else if o = 3 then 2 else if o = 4 then 6 else 4
/-- how many kids -/
def arity (o : Int) : Nat := if o ≤ 3 then 0 else if o = 4 ∨ o = 6 ∨ o = 7 then 1 else if o = 23 then 3 else 2
def occ (o : Int) : Bool := decide (0 ≤ o) && decide (o < 24)
def place (e : E) : Bool := decide (3 ≤ e.op) && decide (e.op ≤ 5)
/-- the fields of a node that are not zero -/
def flds (e : E) : Nat := (if e.n ≠ 0 then 1 else 0) + (if e.nm.size ≠ 0 then 2 else 0) + (if e.ks.length ≠ 0 then 4 else 0)
def sub (a b : Nat) : Bool := a &&& b == a
def hd (l : List E) : Bool := match l with | [] => false | e :: _ => e.place
def form (e : E) : Bool := sub (flds e) (uses e.op) && decide (e.ks.length = arity e.op) && (decide (e.op ≠ 4 ∧ e.op ≠ 5) || hd e.ks)
def mal (e : E) : Bool := !occ e.op || !form e
def mis (nmB : ByteArray → Bool) (e : E) : Bool := occ e.op && (e.op == 3 || e.op == 4) && !nmB e.nm
def out (e : E) : Bool := e.op == 0 && !(decide (0 ≤ e.n) && decide (e.n ≤ 1048576))
/-- three faults as a number -/
def fv (a b c : Bool) : Nat := (if a then 1 else 0) + (if b then 2 else 0) + (if c then 4 else 0)
theorem fv_or (a b c a' b' c' : Bool) : fv a b c ||| fv a' b' c' = fv (a || a') (b || b') (c || c') := by
  cases a <;> cases b <;> cases c <;> cases a' <;> cases b' <;> cases c' <;> rfl
theorem fv_le (a b c : Bool) : fv a b c ≤ 7 := by cases a <;> cases b <;> cases c <;> decide
/-- the code of an expression -/
def chk (nmB : ByteArray → Bool) (e : E) : Int :=
  if 1024 < e.nodes ∨ 12 < e.dep then 4 else if e.any mal then 1 else if e.any (mis nmB) then 7 else if e.any out then 3 else 0
/-- a name that is too long to be looked at -/
def big (e : E) : Bool := decide (1000000 < e.nm.size)
mutual
/-- what is left of a number of parts behind a tree -/
def lf : E → Int → Int | .mk _ _ s _ _ k, x => lfL k (x - 1 - ((s.size / 16 : Nat) : Int))
def lfL : List E → Int → Int | [], x => x | e :: l, x => if 0 ≤ x then lfL l (lf e x) else x
end
theorem lf_eq (e : E) (x : Int) : e.lf x = lfL e.ks (x - 1 - ((e.nm.size / 16 : Nat) : Int)) := by cases e; simp [lf, ks, nm]
theorem lfL_neg {l : List E} {x : Int} (h : x < 0) : lfL l x = x := by
  cases l with
  | nil => simp [lfL]
  | cons e l => simp only [lfL]; rw [if_neg (by omega)]
theorem lfL_pos {a : E} {l : List E} {x : Int} (h : 0 ≤ x) : lfL (a :: l) x = lfL l (a.lf x) := by simp only [lfL]; rw [if_pos h]
theorem lfL_snoc (l : List E) (e : E) (x : Int) : lfL (l ++ [e]) x = if 0 ≤ lfL l x then e.lf (lfL l x) else lfL l x := by
  induction l generalizing x with
  | nil =>
    by_cases h : 0 ≤ x
    · rw [List.nil_append, lfL_pos h]; simp [lfL, h]
    · rw [List.nil_append, lfL_neg (by omega)]; simp [lfL, h]
  | cons a l ih =>
    rw [List.cons_append]
    by_cases h : 0 ≤ x
    · rw [lfL_pos h, lfL_pos h, ih]
    · rw [lfL_neg (by omega), lfL_neg (by omega), if_neg h]
theorem lf_le (e : E) : ∀ x, e.lf x ≤ x - 1 := by
  induction e using E.ind with
  | h e ih =>
    have key : ∀ l : List E, (∀ k ∈ l, ∀ x, k.lf x ≤ x - 1) → ∀ x, lfL l x ≤ x := by
      intro l
      induction l with
      | nil => intro _ x; simp [lfL]
      | cons a l ihl =>
        intro h x
        simp only [lfL]
        split
        · have h1 := h a (by simp) x
          have h2 := ihl (fun k hk => h k (by simp [hk])) (a.lf x)
          omega
        · omega
    intro x
    rw [lf_eq]
    have := key e.ks ih (x - 1 - ((e.nm.size / 16 : Nat) : Int))
    omega
/-- what the test of few parts says -/
theorem lf_few (e : E) : ∀ x, x ≤ 60000 → 0 ≤ e.lf x → (e.nodes : Int) + e.lf x ≤ x ∧ e.any big = false := by
  induction e using E.ind with
  | h e ih =>
    have key : ∀ l : List E, (∀ k ∈ l, ∀ x, x ≤ 60000 → 0 ≤ k.lf x → (k.nodes : Int) + k.lf x ≤ x ∧ k.any big = false) → ∀ x, x ≤ 60000 → 0 ≤ lfL l x → (nodesL l : Int) + lfL l x ≤ x ∧ anyL big l = false := by
      intro l
      induction l with
      | nil => intro _ x _ h; simp [lfL, nodesL, anyL]
      | cons a l ihl =>
        intro h x hx h0
        have e1 : lfL (a :: l) x = if 0 ≤ x then lfL l (a.lf x) else x := by simp only [lfL]
        rw [e1] at h0 ⊢
        by_cases hp : 0 ≤ x
        · rw [if_pos hp] at h0 ⊢
          have hle := lf_le a x
          have ha : 0 ≤ a.lf x := by
            apply Classical.byContradiction
            intro hn
            rw [lfL_neg (by omega)] at h0
            omega
          have h1 := h a (by simp) x hx ha
          have h2 := ihl (fun k hk => h k (by simp [hk])) (a.lf x) (by omega) h0
          simp only [nodesL, anyL]
          refine ⟨by omega, ?_⟩
          rw [h1.2, h2.2]; rfl
        · rw [if_neg hp] at h0; omega
    intro x hx h0
    rw [lf_eq] at h0 ⊢
    have h1 := key e.ks ih _ (by omega) h0
    rw [nodes_eq, any_eq, h1.2]
    refine ⟨by omega, ?_⟩
    have : 0 ≤ lfL e.ks (x - 1 - ((e.nm.size / 16 : Nat) : Int)) := h0
    unfold big
    rw [decide_eq_false (by omega)]; rfl
end E
end Go.Proofs.YtmemkcaikajnnaaGreatDoor
