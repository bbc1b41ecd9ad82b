/- Plain laws of mixed radix numbers: no Go in sight. -/
namespace Go.Proofs.Ytkcnaedffcmodaa.Kd
set_option linter.unusedVariables false

/-- the product of the first -/
def Q (c : Nat → Nat) : Nat → Nat
  | 0 => 1
  | n + 1 => Q c n * c n
/-- the product of k from i on -/
def T (c : Nat → Nat) : Nat → Nat → Nat
  | 0, _ => 1
  | k + 1, i => c i * T c k (i + 1)
/-- the product of those from i on below n -/
def P (c : Nat → Nat) (n i : Nat) : Nat := T c (n - i) i
/-- the number of the first digits -/
def R (c e : Nat → Nat) : Nat → Nat
  | 0 => 0
  | i + 1 => R c e i * c i + e i
/-- the digit i of r -/
def dg (c : Nat → Nat) (n r i : Nat) : Nat := r / P c n (i + 1) % c i

section
variable {c d e f : Nat → Nat} {n i j r s x : Nat}
theorem P_end : P c n n = 1 := by unfold P; rw [Nat.sub_self]; rfl
theorem P_lt (h : i < n) : P c n i = c i * P c n (i + 1) := by
  unfold P
  obtain ⟨k, hk⟩ : ∃ k, n - i = k + 1 := ⟨n - i - 1, by omega⟩
  rw [hk, show n - (i + 1) = k by omega]; rfl
theorem Q_pos (h : ∀ j, j < n → 0 < c j) : 0 < Q c n := by
  induction n with
  | zero => exact Nat.one_pos
  | succ n ih => exact Nat.mul_pos (ih fun j hj => h j (by omega)) (h n (by omega))
theorem P_pos (h : ∀ j, j < n → 0 < c j) (hi : i ≤ n) : 0 < P c n i := by
  obtain ⟨k, rfl⟩ : ∃ k, i = n - k := ⟨n - i, by omega⟩
  induction k with
  | zero => rw [Nat.sub_zero, P_end]; exact Nat.one_pos
  | succ k ih =>
    by_cases hk : k < n
    · rw [P_lt (by omega)]
      refine Nat.mul_pos (h _ (by omega)) ?_
      have := ih (by omega)
      rwa [show n - k = n - (k + 1) + 1 by omega] at this
    · have := ih (by omega)
      rwa [show n - k = n - (k + 1) by omega] at this
theorem Q_P (hi : i ≤ n) : Q c i * P c n i = Q c n := by
  obtain ⟨k, rfl⟩ : ∃ k, i = n - k := ⟨n - i, by omega⟩
  induction k with
  | zero => rw [Nat.sub_zero, P_end, Nat.mul_one]
  | succ k ih =>
    by_cases hk : k < n
    · have h1 := ih (by omega)
      rw [P_lt (by omega), ← Nat.mul_assoc]
      rw [show n - k = n - (k + 1) + 1 by omega] at h1
      exact h1
    · have h1 := ih (by omega)
      rwa [show n - k = n - (k + 1) by omega] at h1
theorem P_zero : P c n 0 = Q c n := by
  have := Q_P (c := c) (Nat.zero_le n)
  rwa [show Q c 0 = 1 from rfl, Nat.one_mul] at this
theorem P_div (h : ∀ j, j < n → 0 < c j) (hi : i < n) : P c n i / c i = P c n (i + 1) := by
  rw [P_lt hi, Nat.mul_comm, Nat.mul_div_cancel _ (h i hi)]
theorem div_step (hi : i < n) : r / P c n (i + 1) / c i = r / P c n i := by
  rw [Nat.div_div_eq_div_mul, P_lt hi, Nat.mul_comm]
theorem Q_mono (h : ∀ j, j < n → 0 < c j) (hi : i ≤ n) : Q c i ≤ Q c n := by
  rw [← Q_P (c := c) hi]
  exact Nat.le_mul_of_pos_right _ (P_pos h hi)
theorem P_le (h : ∀ j, j < n → 0 < c j) (hi : i ≤ n) : P c n i ≤ Q c n := by
  rw [← Q_P (c := c) hi]
  exact Nat.le_mul_of_pos_left _ (Q_pos fun j hj => h j (by omega))
theorem c_le (h : ∀ j, j < n → 0 < c j) (hi : i < n) : c i ≤ Q c n := by
  refine Nat.le_trans ?_ (Q_mono h (show i + 1 ≤ n by omega))
  exact Nat.le_mul_of_pos_left _ (Q_pos fun j hj => h j (by omega))
theorem R_congr (h : ∀ j, j < i → e j = f j) : R c e i = R c f i := by
  induction i with
  | zero => rfl
  | succ i ih =>
    show R c e i * c i + e i = R c f i * c i + f i
    rw [ih fun j hj => h j (by omega), h i (by omega)]
theorem R_lt (h : ∀ j, j < i → e j < c j) : R c e i < Q c i := by
  induction i with
  | zero => exact Nat.one_pos
  | succ i ih =>
    have h1 := ih fun j hj => h j (by omega)
    have h2 := h i (by omega)
    show R c e i * c i + e i < Q c i * c i
    have h3 : (R c e i + 1) * c i ≤ Q c i * c i := Nat.mul_le_mul_right _ h1
    rw [Nat.succ_mul] at h3
    omega
theorem R_pre (h : ∀ j, j < n → 0 < c j) (hr : r < Q c n) (hi : i ≤ n) : R c (dg c n r) i = r / P c n i := by
  induction i with
  | zero => rw [P_zero, Nat.div_eq_of_lt hr]; rfl
  | succ i ih =>
    show R c (dg c n r) i * c i + dg c n r i = _
    rw [ih (by omega), ← div_step (by omega)]
    unfold dg
    rw [Nat.mul_comm]
    exact Nat.div_add_mod _ _
theorem R_dg (h : ∀ j, j < n → 0 < c j) (hr : r < Q c n) : R c (dg c n r) n = r := by
  rw [R_pre h hr (Nat.le_refl _), P_end, Nat.div_one]
theorem R_div (h : ∀ j, j < n → e j < c j) (hi : i ≤ n) : R c e n / P c n i = R c e i := by
  obtain ⟨k, rfl⟩ : ∃ k, i = n - k := ⟨n - i, by omega⟩
  induction k with
  | zero => rw [Nat.sub_zero, P_end, Nat.div_one]
  | succ k ih =>
    by_cases hk : k < n
    · have h1 := ih (by omega)
      rw [show n - k = n - (k + 1) + 1 by omega] at h1
      rw [← div_step (by omega), h1]
      show (R c e (n - (k + 1)) * c (n - (k + 1)) + e (n - (k + 1))) / c (n - (k + 1)) = _
      have h2 := h (n - (k + 1)) (by omega)
      rw [Nat.mul_comm, Nat.mul_add_div (by omega), Nat.div_eq_of_lt h2, Nat.add_zero]
    · have h1 := ih (by omega)
      rwa [show n - k = n - (k + 1) by omega] at h1
theorem dg_R (h : ∀ j, j < n → e j < c j) (hi : i < n) : dg c n (R c e n) i = e i := by
  unfold dg
  rw [R_div h (by omega)]
  show (R c e i * c i + e i) % c i = e i
  rw [Nat.mul_comm, Nat.mul_add_mod, Nat.mod_eq_of_lt (h i hi)]
theorem dg_lt (h : ∀ j, j < n → 0 < c j) (hi : i < n) : dg c n r i < c i := Nat.mod_lt _ (h i hi)
/-- the lesser first digit makes the lesser number -/
theorem lex (h : ∀ j, j < n → 0 < c j) (hr : r < Q c n) (hs : s < Q c n) (hi : i < n) (he : ∀ j, j < i → dg c n r j = dg c n s j) (hl : dg c n r i < dg c n s i) : r < s := by
  have h1 := R_pre h hr (show i + 1 ≤ n by omega)
  have h2 := R_pre h hs (show i + 1 ≤ n by omega)
  have h3 : R c (dg c n r) i = R c (dg c n s) i := R_congr he
  have e1 : R c (dg c n r) (i + 1) = R c (dg c n r) i * c i + dg c n r i := rfl
  have e2 : R c (dg c n s) (i + 1) = R c (dg c n s) i * c i + dg c n s i := rfl
  apply Classical.byContradiction
  intro hn
  have := Nat.div_le_div_right (c := P c n (i + 1)) (show s ≤ r by omega)
  rw [h3] at e1
  omega
theorem lex_eq (h : ∀ j, j < n → 0 < c j) (hr : r < Q c n) (hs : s < Q c n) (he : ∀ j, j < n → dg c n r j = dg c n s j) : r = s := by
  rw [← R_dg h hr, ← R_dg h hs, R_congr he]
theorem P_snoc (hi : i ≤ n) : P c (n + 1) i = P c n i * c n := by
  obtain ⟨k, rfl⟩ : ∃ k, i = n - k := ⟨n - i, by omega⟩
  induction k with
  | zero => rw [Nat.sub_zero, P_end, P_lt (Nat.lt_succ_self n), P_end, Nat.mul_one, Nat.one_mul]
  | succ k ih =>
    by_cases hk : k < n
    · have h1 := ih (by omega)
      rw [show n - k = n - (k + 1) + 1 by omega] at h1
      rw [P_lt (by omega), P_lt (c := c) (n := n) (by omega), h1, Nat.mul_assoc]
    · have h1 := ih (by omega)
      rwa [show n - k = n - (k + 1) by omega] at h1
theorem dg_snoc (hx : x < c n) (hi : i < n) : dg c (n + 1) (r * c n + x) i = dg c n r i := by
  unfold dg
  rw [P_snoc (by omega), Nat.mul_comm (P c n (i + 1)), ← Nat.div_div_eq_div_mul, Nat.mul_comm r, Nat.mul_add_div (by omega), Nat.div_eq_of_lt hx, Nat.add_zero]
theorem dg_last (hx : x < c n) : dg c (n + 1) (r * c n + x) n = x := by
  unfold dg
  rw [P_end, Nat.div_one, Nat.mul_comm, Nat.mul_add_mod, Nat.mod_eq_of_lt hx]
end

/-- the numbers of the vectors in a box: those of the first k digits that b accepts -/
def inB (c : Nat → Nat) (b : Nat → Nat → Bool) (k r : Nat) : Bool := (List.range k).all fun i => b i (dg c k r i)
def W (c : Nat → Nat) (b : Nat → Nat → Bool) (k : Nat) : List Nat := (List.range (Q c k)).filter (inB c b k)
/-- the values below m that b accepts -/
def sg (b : Nat → Bool) (m : Nat) : List Nat := (List.range m).filter b

section
variable {c : Nat → Nat} {b : Nat → Nat → Bool} {k r x m : Nat}
theorem inB_snoc (hx : x < c k) : inB c b (k + 1) (r * c k + x) = (inB c b k r && b k x) := by
  unfold inB
  rw [List.range_succ, List.all_append]
  congr 1
  · rw [Bool.eq_iff_iff, List.all_eq_true, List.all_eq_true]
    constructor
    · intro h i hi
      have := h i hi
      rwa [dg_snoc hx (List.mem_range.1 hi)] at this
    · intro h i hi
      rw [dg_snoc hx (List.mem_range.1 hi)]; exact h i hi
  · simp [dg_last hx]
theorem range_mul (q m : Nat) : List.range (q * m) = (List.range q).flatMap fun r => (List.range m).map fun x => r * m + x := by
  induction q with
  | zero => rw [Nat.zero_mul]; rfl
  | succ q ih => rw [Nat.succ_mul, List.range_add, ih, List.range_succ, List.flatMap_append]; simp
theorem W_zero : W c b 0 = [0] := rfl
theorem W_succ : W c b (k + 1) = (W c b k).flatMap fun r => (sg (b k) (c k)).map fun x => r * c k + x := by
  unfold W sg
  show (List.range (Q c k * c k)).filter (inB c b (k + 1)) = _
  rw [range_mul, List.filter_flatMap]
  generalize List.range (Q c k) = l
  induction l with
  | nil => rfl
  | cons r l ih =>
    rw [List.flatMap_cons, ih, List.filter_cons]
    have e : ((List.range (c k)).map fun x => r * c k + x).filter (inB c b (k + 1)) = if inB c b k r = true then ((List.range (c k)).filter (b k)).map (fun x => r * c k + x) else [] := by
      rw [List.filter_map]
      have : ∀ x ∈ List.range (c k), (inB c b (k + 1) ∘ fun x => r * c k + x) x = (inB c b k r && b k x) := fun x hx => inB_snoc (List.mem_range.1 hx)
      rw [List.filter_congr this]
      cases inB c b k r <;> simp
    rw [e]
    cases inB c b k r <;> simp
theorem W_len : (W c b k).length ≤ Q c k := by
  unfold W
  refine Nat.le_trans (List.length_filter_le _ _) ?_
  rw [List.length_range]; exact Nat.le_refl _
theorem W_lt : ∀ r ∈ W c b k, r < Q c k := fun r hr => List.mem_range.1 (List.mem_filter.1 hr).1
theorem W_none (h : ∀ x, x < c k → b k x = false) : W c b (k + 1) = [] := by
  rw [W_succ]
  have : sg (b k) (c k) = [] := by
    unfold sg
    rw [List.filter_eq_nil_iff]
    intro x hx
    rw [h x (List.mem_range.1 hx)]; decide
  rw [this]; simp
theorem W_stay (h : W c b k = []) (j : Nat) : W c b (k + j) = [] := by
  induction j with
  | zero => exact h
  | succ j ih =>
    rw [show k + (j + 1) = k + j + 1 from rfl, W_succ, ih]; rfl
theorem W_one (hc : c k = 1) (h : b k 0 = true) : W c b (k + 1) = W c b k := by
  rw [W_succ, hc]
  have : sg (b k) 1 = [0] := by unfold sg; simp [h]
  rw [this]; simp
theorem sg_yes {b : Nat → Bool} (h : b m = true) : sg b (m + 1) = sg b m ++ [m] := by
  unfold sg; rw [List.range_succ, List.filter_append]; simp [h]
theorem sg_low {b : Nat → Bool} (h : ∀ x, x < m → b x = false) : sg b m = [] := by
  unfold sg
  rw [List.filter_eq_nil_iff]
  intro x hx
  rw [h x (List.mem_range.1 hx)]; decide
theorem sg_high {b : Nat → Bool} {n : Nat} (hm : m ≤ n) (h : ∀ x, m ≤ x → x < n → b x = false) : sg b n = sg b m := by
  obtain ⟨j, rfl⟩ : ∃ j, n = m + j := ⟨n - m, by omega⟩
  induction j with
  | zero => rfl
  | succ j ih =>
    rw [← ih (by omega) fun x h1 h2 => h x h1 (by omega)]
    unfold sg
    rw [show m + (j + 1) = m + j + 1 from rfl, List.range_succ, List.filter_append]
    simp [h (m + j) (by omega) (by omega)]
theorem sg_len {b : Nat → Bool} : (sg b m).length ≤ m := by
  unfold sg
  refine Nat.le_trans (List.length_filter_le _ _) ?_
  rw [List.length_range]; exact Nat.le_refl _
end

/-- a variable -/
structure V where
  nm : ByteArray
  kd : Int
  lo : Int
  hi : Int
  ini : Int
/-- out of its bounds -/
def badV (v : V) : Bool := decide (v.hi < v.lo) || decide (v.lo < -1048576) || decide (1048576 < v.hi)
def sel (k : Int) (vs : List V) : List V := vs.filter fun v => v.kd == k
/-- a variable as a digit -/
def dig (v : V) : Int × Nat := (v.lo, (v.hi - v.lo + 1).toNat)
def lof (ds : List (Int × Nat)) (i : Nat) : Int := (ds.getD i (0, 1)).1
def cf (ds : List (Int × Nat)) (i : Nat) : Nat := (ds.getD i (0, 1)).2
def digs (k : Int) (vs : List V) : List (Int × Nat) := (sel k vs).map dig
/-- the number of vectors -/
def pr (ds : List (Int × Nat)) : Nat := Q (cf ds) ds.length
/-- the code of the errors in common -/
def code (k : Int) (vs : List V) : Int :=
  if k < 0 ∨ 3 < k then 1 else if (sel k vs).any badV = true then 3 else if 4096 < pr (digs k vs) then 4 else 0

section
variable {k : Int} {vs : List V} {ds : List (Int × Nat)} {i : Nat}
theorem sel_snoc (v : V) : sel k (vs ++ [v]) = sel k vs ++ (if v.kd = k then [v] else []) := by
  unfold sel
  rw [List.filter_append]
  congr 1
  by_cases h : v.kd = k <;> simp [h]
theorem sel_sel : sel k (sel k vs) = sel k vs := by unfold sel; rw [List.filter_filter]; simp
theorem Q_congr {c d : Nat → Nat} {n : Nat} (h : ∀ j, j < n → c j = d j) : Q c n = Q d n := by
  induction n with
  | zero => rfl
  | succ n ih =>
    show Q c n * c n = Q d n * d n
    rw [ih fun j hj => h j (by omega), h n (by omega)]
theorem cf_take {n : Nat} (h : i < n) : cf (ds.take n) i = cf ds i := by
  unfold cf
  rw [List.getD_eq_getElem?_getD, List.getD_eq_getElem?_getD, List.getElem?_take_of_lt h]
theorem pr_take {n : Nat} (h : n ≤ ds.length) : pr (ds.take n) = Q (cf ds) n := by
  unfold pr
  rw [List.length_take, Nat.min_eq_left h]
  exact Q_congr fun j hj => cf_take hj
theorem pr_snoc (d : Int × Nat) : pr (ds ++ [d]) = pr ds * d.2 := by
  unfold pr
  rw [List.length_append]
  show Q _ ds.length * _ = _
  congr 1
  · refine Q_congr fun j hj => ?_
    unfold cf
    rw [List.getD_eq_getElem?_getD, List.getD_eq_getElem?_getD, List.getElem?_append_left hj]
  · unfold cf
    rw [List.getD_eq_getElem?_getD, List.getElem?_append_right (Nat.le_refl _)]; simp
theorem cap_step {p q : Nat} (h : 0 < q) : min (min p 4097 * q) 4097 = min (p * q) 4097 := by
  by_cases hp : p ≤ 4097
  · rw [Nat.min_eq_left hp]
  · have h1 : 4097 * 1 ≤ 4097 * q := Nat.mul_le_mul_left _ h
    have h2 : 4097 * q ≤ p * q := Nat.mul_le_mul_right _ (by omega)
    rw [Nat.min_eq_right (a := p) (by omega)]
    omega
theorem dig_pos {v : V} (h : badV v = false) : 0 < (dig v).2 := by
  unfold badV at h
  simp only [Bool.or_eq_false_iff, decide_eq_false_iff_not] at h
  show 0 < (v.hi - v.lo + 1).toNat
  omega
theorem dig_bd {v : V} (h : badV v = false) : -1048576 ≤ v.lo ∧ v.lo ≤ v.hi ∧ v.hi ≤ 1048576 ∧ ((dig v).2 : Int) = v.hi - v.lo + 1 := by
  unfold badV at h
  simp only [Bool.or_eq_false_iff, decide_eq_false_iff_not] at h
  refine ⟨by omega, by omega, by omega, ?_⟩
  show ((v.hi - v.lo + 1).toNat : Int) = _
  omega
/-- digits that walks may lean on -/
structure OkD (ds : List (Int × Nat)) : Prop where
  pos : ∀ i, i < ds.length → 0 < cf ds i
  lo : ∀ i, i < ds.length → -1048576 ≤ lof ds i ∧ lof ds i + cf ds i ≤ 1048577
  sp : pr ds ≤ 4096
theorem digs_len : (digs k vs).length = (sel k vs).length := by unfold digs; rw [List.length_map]
theorem digs_at {l : List V} (h : i < l.length) : lof (l.map dig) i = (l[i]).lo ∧ cf (l.map dig) i = (dig l[i]).2 := by
  unfold lof cf
  rw [List.getD_eq_getElem?_getD, List.getElem?_map, List.getElem?_eq_getElem h]
  exact ⟨rfl, rfl⟩
theorem code_ok (h : code k vs = 0) : (0 ≤ k ∧ k ≤ 3) ∧ (∀ v ∈ sel k vs, badV v = false) ∧ OkD (digs k vs) := by
  unfold code at h
  by_cases h1 : k < 0 ∨ 3 < k
  · rw [if_pos h1] at h; exact absurd h (by decide)
  rw [if_neg h1] at h
  by_cases h2 : (sel k vs).any badV = true
  · rw [if_pos h2] at h; exact absurd h (by decide)
  rw [if_neg h2] at h
  by_cases h3 : 4096 < pr (digs k vs)
  · rw [if_pos h3] at h; exact absurd h (by decide)
  have hb : ∀ v ∈ sel k vs, badV v = false := fun v hv => by
    cases e : badV v with
    | false => rfl
    | true => exact absurd (List.any_eq_true.2 ⟨v, hv, e⟩) h2
  refine ⟨by omega, hb, ⟨fun i hi => ?_, fun i hi => ?_, by omega⟩⟩
  · rw [digs_len] at hi
    unfold digs
    rw [(digs_at hi).2]
    exact dig_pos (hb _ (List.getElem_mem hi))
  · rw [digs_len] at hi
    unfold digs
    rw [(digs_at hi).2, (digs_at hi).1]
    have := dig_bd (hb _ (List.getElem_mem hi))
    omega
end

/-- the vector with the number r -/
def unL (ds : List (Int × Nat)) (r : Nat) : List Int := (List.range ds.length).map fun i => lof ds i + (dg (cf ds) ds.length r i : Int)
/-- the values lie between the bounds -/
def inR (ds : List (Int × Nat)) (xs : List Int) (n : Nat) : Bool := (List.range n).all fun i => decide (lof ds i ≤ xs.getD i 0) && decide (xs.getD i 0 < lof ds i + cf ds i)
/-- the offsets -/
def ofs (ds : List (Int × Nat)) (xs : List Int) (i : Nat) : Nat := (xs.getD i 0 - lof ds i).toNat
def rk (ds : List (Int × Nat)) (xs : List Int) (i : Nat) : Nat := R (cf ds) (ofs ds xs) i

section
variable {ds : List (Int × Nat)} {xs : List Int} {n i r : Nat}
theorem unL_length : (unL ds r).length = ds.length := by unfold unL; simp
theorem unL_get (h : i < ds.length) : (unL ds r).getD i 0 = lof ds i + (dg (cf ds) ds.length r i : Int) := by
  unfold unL
  rw [List.getD_eq_getElem?_getD, List.getElem?_map, List.getElem?_range h]; rfl
theorem inR_iff : inR ds xs n = true ↔ ∀ i, i < n → lof ds i ≤ xs.getD i 0 ∧ xs.getD i 0 < lof ds i + cf ds i := by
  unfold inR
  rw [List.all_eq_true]
  constructor
  · intro h i hi
    have := h i (List.mem_range.2 hi)
    simpa using this
  · intro h i hi
    have := h i (List.mem_range.1 hi)
    simpa using this
theorem inR_bad (hi : i < n) (h : ¬ (lof ds i ≤ xs.getD i 0 ∧ xs.getD i 0 < lof ds i + cf ds i)) : inR ds xs n = false := by
  cases e : inR ds xs n with
  | false => rfl
  | true => exact absurd (inR_iff.1 e i hi) h
theorem ofs_lt (h : inR ds xs n = true) (hi : i < n) : ofs ds xs i < cf ds i := by
  have := inR_iff.1 h i hi
  unfold ofs; omega
theorem rk_succ : rk ds xs (i + 1) = rk ds xs i * cf ds i + ofs ds xs i := rfl
theorem rk_lt (h : inR ds xs ds.length = true) : rk ds xs ds.length < pr ds := R_lt fun j hj => ofs_lt h hj
theorem rk_le (hd : OkD ds) (h : inR ds xs i = true) (hi : i ≤ ds.length) : rk ds xs i < 4096 := by
  have h1 : rk ds xs i < Q (cf ds) i := R_lt fun j hj => ofs_lt h hj
  have h2 : Q (cf ds) i ≤ Q (cf ds) ds.length := Q_mono hd.pos hi
  have := hd.sp
  unfold pr at this
  omega
theorem list_ext {a b : List Int} (hl : a.length = b.length) (h : ∀ i, i < a.length → a.getD i 0 = b.getD i 0) : a = b := by
  apply List.ext_getElem hl
  intro i h1 h2
  have := h i h1
  rwa [List.getD_eq_getElem?_getD, List.getD_eq_getElem?_getD, List.getElem?_eq_getElem h1, List.getElem?_eq_getElem h2] at this
/-- the vector of the number of a vector -/
theorem un_rk (hl : xs.length = ds.length) (h : inR ds xs ds.length = true) : unL ds (rk ds xs ds.length) = xs := by
  refine list_ext (by rw [unL_length, hl]) fun i hi => ?_
  rw [unL_length] at hi
  rw [unL_get hi]
  unfold rk
  rw [dg_R (fun j hj => ofs_lt h hj) hi]
  have := inR_iff.1 h i hi
  unfold ofs; omega
theorem in_un (hd : OkD ds) : inR ds (unL ds r) ds.length = true := inR_iff.2 fun i hi => by
  rw [unL_get hi]
  have := dg_lt (r := r) hd.pos hi
  omega
theorem rk_un (hd : OkD ds) (hr : r < pr ds) : rk ds (unL ds r) ds.length = r := by
  unfold rk
  rw [R_congr (f := dg (cf ds) ds.length r) fun j hj => by unfold ofs; rw [unL_get hj]; omega]
  exact R_dg hd.pos hr
theorem un_bd (hd : OkD ds) : ∀ x ∈ unL ds r, -1048576 ≤ x ∧ x ≤ 1048576 := fun x hx => by
  unfold unL at hx
  obtain ⟨i, hi, rfl⟩ := List.mem_map.1 hx
  have hi := List.mem_range.1 hi
  have h1 := dg_lt (r := r) hd.pos hi
  have h2 := hd.lo i hi
  omega
end
end Go.Proofs.Ytkcnaedffcmodaa.Kd
