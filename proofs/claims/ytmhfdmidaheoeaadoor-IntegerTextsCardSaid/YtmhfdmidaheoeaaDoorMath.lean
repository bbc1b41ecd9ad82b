/- Numbers as lists of words of 32 bits: plain mathematics, of no program. -/
namespace Go.Proofs.YtmhfdmidaheoeaaDoor.Kn

/-- the powers of 2^32 -/
def pw (k : Nat) : Nat := 4294967296 ^ k
theorem pw_zero : pw 0 = 1 := rfl
theorem pw_succ (k : Nat) : pw (k + 1) = 4294967296 * pw k := by unfold pw; rw [Nat.pow_succ, Nat.mul_comm]
theorem pw_pos (k : Nat) : 0 < pw k := Nat.pow_pos (by decide)
theorem pw_add (i j : Nat) : pw (i + j) = pw i * pw j := by unfold pw; rw [Nat.pow_add]
theorem pw_mono {i j : Nat} (h : i ≤ j) : pw i ≤ pw j := Nat.pow_le_pow_right (by decide) h

/-- the number of a list of words, the least significant first -/
def val : List Nat → Nat
  | [] => 0
  | x :: l => x + 4294967296 * val l

/-- words -/
def Wd (l : List Nat) : Prop := ∀ x ∈ l, x < 4294967296
theorem Wd.nil : Wd [] := fun _ h => by cases h
theorem Wd.cons {x : Nat} {l : List Nat} (hx : x < 4294967296) (h : Wd l) : Wd (x :: l) := fun y hy => by
  rcases List.mem_cons.1 hy with rfl | hy
  · exact hx
  · exact h y hy
theorem Wd.tail {x : Nat} {l : List Nat} (h : Wd (x :: l)) : Wd l := fun y hy => h y (List.mem_cons_of_mem _ hy)
theorem Wd.head {x : Nat} {l : List Nat} (h : Wd (x :: l)) : x < 4294967296 := h x (List.mem_cons_self)
theorem Wd.take {l : List Nat} (h : Wd l) (k : Nat) : Wd (l.take k) := fun y hy => h y (List.mem_of_mem_take hy)
theorem Wd.drop {l : List Nat} (h : Wd l) (k : Nat) : Wd (l.drop k) := fun y hy => h y (List.mem_of_mem_drop hy)
theorem Wd.append {l m : List Nat} (h : Wd l) (h' : Wd m) : Wd (l ++ m) := fun y hy => by
  rcases List.mem_append.1 hy with hy | hy
  · exact h y hy
  · exact h' y hy
theorem Wd.getD {l : List Nat} (h : Wd l) (k : Nat) : l.getD k 0 < 4294967296 := by
  rw [List.getD_eq_getElem?_getD]
  by_cases hk : k < l.length
  · rw [List.getElem?_eq_getElem hk]; exact h _ (List.getElem_mem hk)
  · rw [List.getElem?_eq_none (by omega)]; decide
theorem Wd.set {l : List Nat} (h : Wd l) (k : Nat) {x : Nat} (hx : x < 4294967296) : Wd (l.set k x) := fun y hy => by
  rcases List.mem_or_eq_of_mem_set hy with hy | rfl
  · exact h y hy
  · exact hx
theorem Wd.zeros (n : Nat) : Wd (List.replicate n 0) := fun y hy => by
  rw [List.eq_of_mem_replicate hy]; decide

theorem val_nil : val [] = 0 := rfl
theorem val_cons (x : Nat) (l : List Nat) : val (x :: l) = x + 4294967296 * val l := rfl
theorem val_one (x : Nat) : val [x] = x := by simp [val]
theorem val_zeros (n : Nat) : val (List.replicate n 0) = 0 := by
  induction n with
  | zero => rfl
  | succ n ih => rw [List.replicate_succ, val_cons, ih]
theorem val_append (a b : List Nat) : val (a ++ b) = val a + pw a.length * val b := by
  induction a with
  | nil => simp [val, pw]
  | cons x a ih =>
    rw [List.cons_append, val_cons, val_cons, ih, List.length_cons, pw_succ, Nat.mul_add, Nat.mul_assoc]
    omega
theorem val_lt {l : List Nat} (h : Wd l) : val l < pw l.length := by
  induction l with
  | nil => simp [val, pw]
  | cons x l ih =>
    have h1 := ih h.tail
    have h2 := h.head
    rw [val_cons, List.length_cons, pw_succ]
    omega
theorem take_snoc (l : List Nat) {k : Nat} (hk : k < l.length) : l.take (k + 1) = l.take k ++ [l.getD k 0] := by
  rw [List.take_succ_eq_append_getElem hk, List.getD_eq_getElem?_getD, List.getElem?_eq_getElem hk]; rfl
theorem val_take_succ (l : List Nat) {k : Nat} (hk : k < l.length) : val (l.take (k + 1)) = val (l.take k) + pw k * l.getD k 0 := by
  rw [take_snoc l hk, val_append, val_one, List.length_take, Nat.min_eq_left (by omega)]
theorem val_take_ge (l : List Nat) {k : Nat} (hk : l.length ≤ k) : val (l.take k) = val l := by rw [List.take_of_length_le hk]
theorem val_take_lt {l : List Nat} (h : Wd l) (k : Nat) : val (l.take k) < pw k :=
  Nat.lt_of_lt_of_le (val_lt (h.take k)) (pw_mono (List.length_take_le _ _))
theorem val_split (l : List Nat) (k : Nat) (hk : k ≤ l.length) : val l = val (l.take k) + pw k * val (l.drop k) := by
  have h := val_append (l.take k) (l.drop k)
  rw [List.take_append_drop, List.length_take, Nat.min_eq_left hk] at h
  exact h
theorem drop_cons (l : List Nat) {k : Nat} (hk : k < l.length) : l.drop k = l.getD k 0 :: l.drop (k + 1) := by
  rw [List.drop_eq_getElem_cons hk, List.getD_eq_getElem?_getD, List.getElem?_eq_getElem hk]; rfl
theorem take_set_le (l : List Nat) (k x : Nat) : (l.set k x).take k = l.take k := by rw [List.take_set]; exact List.set_eq_of_length_le (List.length_take_le _ _)
theorem getD_set (l : List Nat) (k j x : Nat) (hk : k < l.length) : (l.set k x).getD j 0 = if j = k then x else l.getD j 0 := by
  rw [List.getD_eq_getElem?_getD, List.getD_eq_getElem?_getD]
  by_cases h : j = k
  · subst h; rw [if_pos rfl, List.getElem?_set_self hk]; rfl
  · rw [if_neg h, List.getElem?_set_ne (fun e => h e.symm)]
theorem val_set_take (l : List Nat) {k : Nat} (x : Nat) (hk : k < l.length) : val ((l.set k x).take (k + 1)) = val (l.take k) + pw k * x := by
  rw [val_take_succ _ (by simpa using hk), take_set_le, getD_set _ _ _ _ hk, if_pos rfl]
theorem drop_set (l : List Nat) {k j : Nat} (x : Nat) (h : k < j) : (l.set k x).drop j = l.drop j := by rw [List.drop_set_of_lt h]
theorem val_set (l : List Nat) {k : Nat} (x : Nat) (hk : k < l.length) : val (l.set k x) + pw k * l.getD k 0 = val l + pw k * x := by
  rw [val_split (l.set k x) k (by simpa using Nat.le_of_lt hk), val_split l k (Nat.le_of_lt hk), take_set_le, drop_cons (l.set k x) (by simpa using hk), drop_cons l hk, drop_set l x (by omega), getD_set _ _ _ _ hk, if_pos rfl, val_cons, val_cons, Nat.mul_add, Nat.mul_add]
  omega

/-- the words of a number -/
def dig (n : Nat) : List Nat := if h : n = 0 then [] else n % 4294967296 :: dig (n / 4294967296)
termination_by n
decreasing_by omega
theorem dig_zero : dig 0 = [] := by rw [dig]; rfl
theorem dig_pos {n : Nat} (h : n ≠ 0) : dig n = n % 4294967296 :: dig (n / 4294967296) := by rw [dig, dif_neg h]
theorem val_dig (n : Nat) : val (dig n) = n := by
  induction n using Nat.strongRecOn with
  | _ n ih =>
    by_cases h : n = 0
    · subst h; rw [dig_zero]; rfl
    · rw [dig_pos h, val_cons, ih _ (by omega)]; omega
theorem dig_wd (n : Nat) : Wd (dig n) := by
  induction n using Nat.strongRecOn with
  | _ n ih =>
    by_cases h : n = 0
    · subst h; rw [dig_zero]; exact Wd.nil
    · rw [dig_pos h]; exact Wd.cons (Nat.mod_lt _ (by decide)) (ih _ (by omega))
theorem dig_inj {n m : Nat} (h : dig n = dig m) : n = m := by rw [← val_dig n, h, val_dig]
theorem dig_nil {n : Nat} : dig n = [] ↔ n = 0 := ⟨fun h => by rw [← val_dig n, h]; rfl, fun h => by rw [h, dig_zero]⟩
theorem dig_len_pos {n : Nat} : 0 < (dig n).length ↔ 0 < n := by
  by_cases h : n = 0
  · subst h; rw [dig_zero]; simp
  · rw [dig_pos h]; simp; omega
theorem dig_last {n : Nat} (h : 0 < n) : (dig n).getD ((dig n).length - 1) 0 ≠ 0 := by
  induction n using Nat.strongRecOn with
  | _ n ih =>
    rw [dig_pos (by omega)]
    by_cases h2 : n / 4294967296 = 0
    · rw [h2, dig_zero]; simp; omega
    · have h3 := dig_len_pos.2 (show 0 < n / 4294967296 by omega)
      have h4 := ih (n / 4294967296) (by omega) (by omega)
      rw [List.length_cons, Nat.add_sub_cancel, List.getD_eq_getElem?_getD]
      rw [List.getD_eq_getElem?_getD] at h4
      obtain ⟨k, hk⟩ : ∃ k, (dig (n / 4294967296)).length = k + 1 := ⟨_, (Nat.sub_add_cancel h3).symm⟩
      rw [hk] at h4 ⊢
      rw [List.getElem?_cons_succ]
      exact h4

/-- words without a zero at the end are the words of their number -/
theorem canon {l : List Nat} (h : Wd l) (hl : l.length = 0 ∨ l.getD (l.length - 1) 0 ≠ 0) : l = dig (val l) := by
  induction l with
  | nil => rw [val_nil, dig_zero]
  | cons x l ih =>
    cases l with
    | nil =>
      have hx := h.head
      have hx0 : x ≠ 0 := by rcases hl with hl | hl; · simp at hl
                             · simpa using hl
      rw [val_one, dig_pos hx0, Nat.mod_eq_of_lt hx, Nat.div_eq_of_lt hx, dig_zero]
    | cons y l =>
      have hl' : (y :: l).getD ((y :: l).length - 1) 0 ≠ 0 := by
        rcases hl with hl | hl
        · simp at hl
        · rw [List.getD_eq_getElem?_getD] at hl ⊢
          simpa using hl
      have e := ih h.tail (Or.inr hl')
      have hv : val (y :: l) ≠ 0 := fun h0 => by rw [h0, dig_zero] at e; cases e
      have hx := h.head
      rw [val_cons x, dig_pos (by omega), show (x + 4294967296 * val (y :: l)) % 4294967296 = x by omega, show (x + 4294967296 * val (y :: l)) / 4294967296 = val (y :: l) by omega, ← e]

theorem dig_len_le {n k : Nat} (h : n < pw k) : (dig n).length ≤ k := by
  induction k generalizing n with
  | zero => rw [pw_zero] at h; rw [show n = 0 by omega, dig_zero]; simp
  | succ k ih =>
    by_cases h0 : n = 0
    · rw [h0, dig_zero]; simp
    · rw [pw_succ] at h
      rw [dig_pos h0, List.length_cons]
      have := ih (n := n / 4294967296) (by omega)
      omega
theorem dig_len_val {l : List Nat} (h : Wd l) : (dig (val l)).length ≤ l.length := dig_len_le (val_lt h)
theorem dig_lt {n : Nat} : n < pw (dig n).length := by
  have := val_lt (dig_wd n); rwa [val_dig] at this
theorem dig_ge {n : Nat} (h : 0 < n) : pw ((dig n).length - 1) ≤ n := by
  rw [Nat.le_iff_lt_add_one, ← Nat.not_le]
  intro hc
  have := dig_len_le (n := n) (k := (dig n).length - 1) (by omega)
  have := dig_len_pos.2 h
  omega
theorem dig_mono {n m : Nat} (h : (dig n).length < (dig m).length) : n < m := by
  have h1 := @dig_lt n
  have hm : 0 < m := dig_len_pos.1 (by omega)
  have h2 := dig_ge hm
  have h3 := pw_mono (show (dig n).length ≤ (dig m).length - 1 by omega)
  omega
theorem val_take_of_dig (l : List Nat) (h : Wd l) {k : Nat} (hk : k ≤ l.length) (hv : val (l.take k) = val l) (he : k = 0 ∨ l.getD (k - 1) 0 ≠ 0) : l.take k = dig (val l) ∧ k = (dig (val l)).length := by
  have hl : (l.take k).length = k := by rw [List.length_take, Nat.min_eq_left hk]
  have e : l.take k = dig (val l) := by
    rw [← hv]
    refine canon (h.take k) ?_
    rw [hl]
    by_cases hk0 : k = 0
    · exact Or.inl hk0
    · rcases he with he | he
      · exact absurd he hk0
      · refine Or.inr ?_
        rwa [List.getD_eq_getElem?_getD, List.getElem?_take_of_lt (by omega), ← List.getD_eq_getElem?_getD]
  exact ⟨e, by rw [← e, hl]⟩

/-- a row without the zeros at its end -/
theorem trim_take {l : List Nat} (h : Wd l) : l.take (dig (val l)).length = dig (val l) := by
  induction l with
  | nil => rw [val_nil, dig_zero]; rfl
  | cons x l ih =>
    have hx := h.head
    have i := ih h.tail
    by_cases h0 : val (x :: l) = 0
    · rw [h0, dig_zero]; rfl
    · have e1 : val (x :: l) % 4294967296 = x := by rw [val_cons]; omega
      have e2 : val (x :: l) / 4294967296 = val l := by rw [val_cons]; omega
      rw [dig_pos h0, e1, e2, List.length_cons, List.take_succ_cons, i]

/-- two rows of one length that agree above k -/
theorem val_lt_of {a b : List Nat} (ha : Wd a) (hl : a.length = b.length) {k : Nat} (hk : k < a.length) (hd : a.drop (k + 1) = b.drop (k + 1)) (hlt : a.getD k 0 < b.getD k 0) : val a < val b := by
  rw [val_split a k (by omega), val_split b k (by omega), drop_cons a hk, drop_cons b (by omega), hd, val_cons, val_cons]
  have h1 := val_take_lt ha k
  have h2 : pw k * (a.getD k 0 + 4294967296 * val (b.drop (k + 1))) + pw k ≤ pw k * (b.getD k 0 + 4294967296 * val (b.drop (k + 1))) := by
    rw [← Nat.mul_succ]; exact Nat.mul_le_mul_left _ (by omega)
  omega

/-- the order of two numbers -/
def cmp (n m : Nat) : Int := if n < m then -1 else if n = m then 0 else 1

/-- an integer's value -/
def iv (neg : Bool) (l : List Nat) : Int := if neg then -(val l : Int) else (val l : Int)
theorem iv_natAbs (neg : Bool) (l : List Nat) : (iv neg l).natAbs = val l := by unfold iv; split <;> omega
theorem iv_neg (neg : Bool) (l : List Nat) : decide (iv neg l < 0) = (neg && decide (0 < val l)) := by
  unfold iv; cases neg <;> simp <;> omega
theorem iv_dig (z : Int) : iv (decide (z < 0)) (dig z.natAbs) = z := by
  unfold iv; rw [val_dig]; by_cases h : z < 0 <;> simp [h] <;> omega
end Go.Proofs.YtmhfdmidaheoeaaDoor.Kn
