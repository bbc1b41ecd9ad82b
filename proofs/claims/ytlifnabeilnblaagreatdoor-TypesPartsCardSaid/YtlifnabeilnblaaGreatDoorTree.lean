/- Types as plain data: what the walks over package types speak of. Of no program. -/
import Derived.WalkKit
namespace Go.Proofs.YtlifnabeilnblaaGreatDoor
set_option linter.unusedVariables false

/-- a type: kind, bounds, size, name, where the names lie, their slice's capacity, the names; where the components lie, their slice's capacity, the components -/
inductive G where
  | mk (kd lo hi sz : Int) (nm : ByteArray) (na : Option Addr) (nc : Nat) (ns : List ByteArray) (a : Option Addr) (cap : Nat) (ks : List G)
namespace G
def kd : G → Int | .mk k _ _ _ _ _ _ _ _ _ _ => k
def lo : G → Int | .mk _ k _ _ _ _ _ _ _ _ _ => k
def hi : G → Int | .mk _ _ k _ _ _ _ _ _ _ _ => k
def sz : G → Int | .mk _ _ _ k _ _ _ _ _ _ _ => k
def nm : G → ByteArray | .mk _ _ _ _ k _ _ _ _ _ _ => k
def na : G → Option Addr | .mk _ _ _ _ _ k _ _ _ _ _ => k
def nc : G → Nat | .mk _ _ _ _ _ _ k _ _ _ _ => k
def ns : G → List ByteArray | .mk _ _ _ _ _ _ _ k _ _ _ => k
def ad : G → Option Addr | .mk _ _ _ _ _ _ _ _ k _ _ => k
def cap : G → Nat | .mk _ _ _ _ _ _ _ _ _ k _ => k
def ks : G → List G | .mk _ _ _ _ _ _ _ _ _ _ k => k
mutual
/-- nodes -/
def nodes : G → Nat | .mk _ _ _ _ _ _ _ _ _ _ k => nodesL k + 1
def nodesL : List G → Nat | [] => 0 | e :: l => e.nodes + nodesL l
end
mutual
/-- depth -/
def dep : G → Nat | .mk _ _ _ _ _ _ _ _ _ _ k => depL k + 1
def depL : List G → Nat | [] => 0 | e :: l => max e.dep (depL l)
end
theorem nodes_eq (e : G) : e.nodes = nodesL e.ks + 1 := by cases e; simp [nodes, ks]
theorem dep_eq (e : G) : e.dep = depL e.ks + 1 := by cases e; simp [dep, ks]
theorem nodes_pos (e : G) : 1 ≤ e.nodes := by rw [nodes_eq]; omega
theorem depL_snoc (l : List G) (e : G) : depL (l ++ [e]) = max (depL l) e.dep := by
  induction l with
  | nil => simp [depL]
  | cons a l ih => simp only [List.cons_append, depL, ih]; omega
theorem nodesL_mem {l : List G} {e : G} (h : e ∈ l) : e.nodes ≤ nodesL l := by
  induction l with
  | nil => cases h
  | cons a l ih =>
    simp only [nodesL]
    rcases List.mem_cons.1 h with rfl | h
    · omega
    · have := ih h; omega
theorem depL_mem {l : List G} {e : G} (h : e ∈ l) : e.dep ≤ depL l := by
  induction l with
  | nil => cases h
  | cons a l ih =>
    simp only [depL]
    rcases List.mem_cons.1 h with rfl | h
    · omega
    · have := ih h; omega
mutual
/-- does something hold of a node? -/
def any (p : G → Bool) : G → Bool | .mk k l h s n a c ns b d ks => p (.mk k l h s n a c ns b d ks) || anyL p ks
def anyL (p : G → Bool) : List G → Bool | [] => false | e :: l => e.any p || anyL p l
end
theorem any_eq (p : G → Bool) (e : G) : e.any p = (p e || anyL p e.ks) := by cases e; simp [any, ks]
theorem anyL_snoc (p : G → Bool) (l : List G) (e : G) : anyL p (l ++ [e]) = (anyL p l || e.any p) := by
  induction l with
  | nil => simp [anyL]
  | cons a l ih => simp only [List.cons_append, anyL, ih]; rw [Bool.or_assoc]
theorem anyL_false {p : G → Bool} {l : List G} : anyL p l = false ↔ ∀ e ∈ l, e.any p = false := by
  induction l with
  | nil => simp [anyL]
  | cons a l ih => simp [anyL, ih]
/-- induction: what holds of a tree if it holds of its kids -/
theorem ind {P : G → Prop} (h : ∀ e : G, (∀ k ∈ e.ks, P k) → P e) (e : G) : P e := by
  have key : ∀ n, ∀ e : G, e.nodes ≤ n → P e := by
    intro n
    induction n with
    | zero => intro e he; have := nodes_pos e; omega
    | succ n ih =>
      intro e he
      refine h e fun k hk => ih k ?_
      have := nodesL_mem hk
      rw [nodes_eq] at he; omega
  exact key _ e (Nat.le_refl _)
mutual
/-- are all fields the same? -/
def eqB : G → G → Bool
  | .mk k l h s n _ _ ns _ _ ks, .mk k' l' h' s' n' _ _ ns' _ _ ks' => k == k' && l == l' && h == h' && s == s' && decide (n = n') && decide (ns = ns') && eqL ks ks'
def eqL : List G → List G → Bool
  | [], [] => true
  | e :: l, e' :: l' => eqB e e' && eqL l l'
  | _, _ => false
end
theorem eqB_eq (e f : G) : eqB e f = (e.kd == f.kd && e.lo == f.lo && e.hi == f.hi && e.sz == f.sz && decide (e.nm = f.nm) && decide (e.ns = f.ns) && eqL e.ks f.ks) := by
  cases e; cases f; rw [eqB]; rfl
theorem eqL_len {l l' : List G} (h : eqL l l' = true) : l.length = l'.length := by
  induction l generalizing l' with
  | nil => cases l' with
    | nil => rfl
    | cons e l => simp [eqL] at h
  | cons e l ih => cases l' with
    | nil => simp [eqL] at h
    | cons e' l' =>
      simp only [eqL, Bool.and_eq_true] at h
      rw [List.length_cons, List.length_cons, ih h.2]
/-- two lists of one length differ where two elements do -/
theorem eqL_iff {l l' : List G} (hl : l.length = l'.length) : eqL l l' = true ↔ ∀ i, (h : i < l.length) → (h' : i < l'.length) → eqB l[i] l'[i] = true := by
  induction l generalizing l' with
  | nil => cases l' with
    | nil => simp [eqL]
    | cons e l => simp at hl
  | cons e l ih => cases l' with
    | nil => simp at hl
    | cons e' l' =>
      simp only [eqL, Bool.and_eq_true]
      rw [ih (by simpa using hl)]
      constructor
      · rintro ⟨h0, h1⟩ i h h'
        cases i with
        | zero => exact h0
        | succ i => exact h1 i (by simpa using h) (by simpa using h')
      · intro h
        exact ⟨h 0 (by simp) (by simp), fun i hi hi' => h (i + 1) (by simpa using hi) (by simpa using hi')⟩
theorem eqB_refl (e : G) : eqB e e = true := by
  induction e using G.ind with
  | h e ih =>
    rw [eqB_eq]
    have : eqL e.ks e.ks = true := (eqL_iff rfl).2 fun i h h' => ih _ (List.getElem_mem h)
    simp [this]
/-- the number of scalars, at most one more than the limit -/
def cnt : G → Int
  | .mk k _ _ s _ _ _ _ _ _ ks => min (if k = 2 then s * cntH ks else if k = 3 then cntL ks else 1) 33
where
  cntL : List G → Int
  | [] => 0
  | e :: l => cnt e + cntL l
  cntH : List G → Int
  | [] => 0
  | e :: _ => cnt e
end G
end Go.Proofs.YtlifnabeilnblaaGreatDoor
