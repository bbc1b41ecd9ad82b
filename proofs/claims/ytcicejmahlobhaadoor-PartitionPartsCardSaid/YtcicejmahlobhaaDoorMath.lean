/- Plain laws of partitions as lists of class numbers: no Go in sight. -/
namespace Go.Proofs.YtcicejmahlobhaaDoor.Kp

/-- i is the first with its label -/
def newB (f : Nat → Int) (i : Nat) : Bool := (List.range i).all fun k => f k != f i

theorem newB_true {f : Nat → Int} {i : Nat} : newB f i = true ↔ ∀ k, k < i → f k ≠ f i := by
  unfold newB
  rw [List.all_eq_true]
  constructor
  · intro h k hk
    have := h k (List.mem_range.2 hk)
    simpa using this
  · intro h k hk
    have := h k (List.mem_range.1 hk)
    simpa using this
theorem newB_false {f : Nat → Int} {i : Nat} (h : newB f i = false) : ∃ k, k < i ∧ f k = f i := by
  by_cases hh : ∃ k, k < i ∧ f k = f i
  · exact hh
  · have : newB f i = true := newB_true.2 fun k hk e => hh ⟨k, hk, e⟩
    rw [this] at h; exact absurd h (by decide)

/-- how many classes begin before i -/
def rank (f : Nat → Int) : Nat → Nat
  | 0 => 0
  | i + 1 => rank f i + (if newB f i then 1 else 0)

/-- the first with the label v, from k on with fuel -/
def firstFrom (f : Nat → Int) (v : Int) : Nat → Nat → Nat
  | 0, k => k
  | fuel + 1, k => if f k = v then k else firstFrom f v fuel (k + 1)
def first (f : Nat → Int) (i : Nat) : Nat := firstFrom f (f i) i 0
/-- the class of i -/
def cls (f : Nat → Int) (i : Nat) : Nat := rank f (first f i)

theorem firstFrom_spec (f : Nat → Int) (i : Nat) : ∀ fuel k, k + fuel = i → (∀ j, j < k → f j ≠ f i) →
    f (firstFrom f (f i) fuel k) = f i ∧ firstFrom f (f i) fuel k ≤ i ∧ ∀ j, j < firstFrom f (f i) fuel k → f j ≠ f i := by
  intro fuel
  induction fuel with
  | zero =>
    intro k hk h
    obtain rfl : k = i := by omega
    exact ⟨rfl, Nat.le_refl _, h⟩
  | succ fuel ih =>
    intro k hk h
    unfold firstFrom
    by_cases e : f k = f i
    · rw [if_pos e]; exact ⟨e, by omega, h⟩
    · rw [if_neg e]
      refine ih (k + 1) (by omega) fun j hj => ?_
      by_cases ej : j = k
      · rw [ej]; exact e
      · exact h j (by omega)

theorem first_eq (f : Nat → Int) (i : Nat) : f (first f i) = f i := (firstFrom_spec f i i 0 (by omega) (fun j h => absurd h (Nat.not_lt_zero _))).1
theorem first_le (f : Nat → Int) (i : Nat) : first f i ≤ i := (firstFrom_spec f i i 0 (by omega) (fun j h => absurd h (Nat.not_lt_zero _))).2.1
theorem first_ne (f : Nat → Int) (i : Nat) : ∀ j, j < first f i → f j ≠ f i := (firstFrom_spec f i i 0 (by omega) (fun j h => absurd h (Nat.not_lt_zero _))).2.2
theorem first_of (f : Nat → Int) (i a : Nat) (h1 : f a = f i) (h2 : ∀ j, j < a → f j ≠ f i) : first f i = a := by
  rcases Nat.lt_trichotomy (first f i) a with h | h | h
  · exact absurd (first_eq f i) (h2 _ h)
  · exact h
  · exact absurd h1 (first_ne f i a h)
theorem first_new (f : Nat → Int) (i : Nat) : newB f (first f i) = true := newB_true.2 fun k hk => by rw [first_eq f i]; exact first_ne f i k hk
theorem first_same {f : Nat → Int} {i j : Nat} (h : f i = f j) : first f i = first f j :=
  first_of f i _ (by rw [first_eq f j, h]) (fun k hk => by rw [h]; exact first_ne f j k hk)
theorem first_self {f : Nat → Int} {i : Nat} (h : newB f i = true) : first f i = i := first_of f i i rfl (newB_true.1 h)
theorem first_lt {f : Nat → Int} {i : Nat} (h : newB f i = false) : first f i < i := by
  obtain ⟨k, hk, e⟩ := newB_false h
  rcases Nat.lt_or_ge k (first f i) with h1 | h1
  · exact absurd e (first_ne f i k h1)
  · omega

theorem rank_mono (f : Nat → Int) {a b : Nat} (h : a ≤ b) : rank f a ≤ rank f b := by
  induction b with
  | zero => obtain rfl : a = 0 := by omega
            exact Nat.le_refl _
  | succ b ih =>
    by_cases e : a = b + 1
    · rw [e]; exact Nat.le_refl _
    · have := ih (by omega)
      show _ ≤ rank f b + _
      omega
theorem rank_new {f : Nat → Int} {a : Nat} (h : newB f a = true) : rank f (a + 1) = rank f a + 1 := by
  show rank f a + _ = _
  rw [if_pos h]
theorem rank_old {f : Nat → Int} {a : Nat} (h : newB f a = false) : rank f (a + 1) = rank f a := by
  show rank f a + _ = _
  rw [if_neg (by rw [h]; decide)]; rfl
theorem rank_lt {f : Nat → Int} {a b : Nat} (h : newB f a = true) (hab : a < b) : rank f a < rank f b := by
  have := rank_mono f (show a + 1 ≤ b by omega)
  rw [rank_new h] at this; omega
theorem rank_inj {f : Nat → Int} {a b : Nat} (ha : newB f a = true) (hb : newB f b = true) (h : rank f a = rank f b) : a = b := by
  rcases Nat.lt_trichotomy a b with h1 | h1 | h1
  · have := rank_lt ha h1; omega
  · exact h1
  · have := rank_lt hb h1; omega
theorem rank_le (f : Nat → Int) (k : Nat) : rank f k ≤ k := by
  induction k with
  | zero => exact Nat.le_refl _
  | succ k ih => show rank f k + _ ≤ _; split <;> omega
theorem rank_surj (f : Nat → Int) (k v : Nat) (h : v < rank f k) : ∃ i, i < k ∧ newB f i = true ∧ rank f i = v := by
  induction k with
  | zero => exact absurd h (Nat.not_lt_zero _)
  | succ k ih =>
    cases hn : newB f k with
    | true =>
      rw [rank_new hn] at h
      by_cases e : v = rank f k
      · exact ⟨k, by omega, hn, e.symm⟩
      · obtain ⟨i, h1, h2, h3⟩ := ih (by omega)
        exact ⟨i, by omega, h2, h3⟩
    | false =>
      rw [rank_old hn] at h
      obtain ⟨i, h1, h2, h3⟩ := ih h
      exact ⟨i, by omega, h2, h3⟩

theorem cls_same {f : Nat → Int} {i j : Nat} (h : f i = f j) : cls f i = cls f j := by unfold cls; rw [first_same h]
theorem cls_inj {f : Nat → Int} {i j : Nat} (h : cls f i = cls f j) : f i = f j := by
  have := rank_inj (first_new f i) (first_new f j) h
  rw [← first_eq f i, this, first_eq f j]
theorem cls_iffZ {f : Nat → Int} {i j : Nat} : (cls f i : Int) = (cls f j : Int) ↔ f i = f j := ⟨fun h => cls_inj (by omega), fun h => by rw [cls_same h]⟩
theorem cls_iff {f : Nat → Int} {i j : Nat} : cls f i = cls f j ↔ f i = f j := ⟨cls_inj, cls_same⟩
theorem cls_new {f : Nat → Int} {i : Nat} (h : newB f i = true) : cls f i = rank f i := by unfold cls; rw [first_self h]
theorem cls_old {f : Nat → Int} {i : Nat} (h : newB f i = false) : cls f i < rank f i := rank_lt (first_new f i) (first_lt h)
theorem cls_lt (f : Nat → Int) (i : Nat) : cls f i < rank f (i + 1) := rank_lt (first_new f i) (Nat.lt_succ_of_le (first_le f i))
theorem cls_lt' (f : Nat → Int) {i n : Nat} (h : i < n) : cls f i < rank f n := Nat.lt_of_lt_of_le (cls_lt f i) (rank_mono f h)
theorem cls_le (f : Nat → Int) (i : Nat) : cls f i ≤ rank f i := by
  cases h : newB f i with
  | true => exact Nat.le_of_eq (cls_new h)
  | false => exact Nat.le_of_lt (cls_old h)
theorem cls_surj (f : Nat → Int) (k v : Nat) (h : v < rank f k) : ∃ i, i < k ∧ cls f i = v := by
  obtain ⟨i, h1, h2, h3⟩ := rank_surj f k v h
  exact ⟨i, h1, by rw [cls_new h2, h3]⟩

/-- one labelling is as good as another that separates the same -/
theorem newB_congr {f g : Nat → Int} {n : Nat} (h : ∀ i j, i < n → j < n → (f i = f j ↔ g i = g j)) {i : Nat} (hi : i < n) : newB f i = newB g i := by
  rw [Bool.eq_iff_iff, newB_true, newB_true]
  constructor
  · intro a k hk e; exact a k hk ((h k i (by omega) hi).2 e)
  · intro a k hk e; exact a k hk ((h k i (by omega) hi).1 e)
theorem rank_congr {f g : Nat → Int} {n : Nat} (h : ∀ i j, i < n → j < n → (f i = f j ↔ g i = g j)) {i : Nat} (hi : i ≤ n) : rank f i = rank g i := by
  induction i with
  | zero => rfl
  | succ i ih =>
    show rank f i + _ = rank g i + _
    rw [ih (by omega), newB_congr h (by omega)]
theorem first_congr {f g : Nat → Int} {n : Nat} (h : ∀ i j, i < n → j < n → (f i = f j ↔ g i = g j)) {i : Nat} (hi : i < n) : first f i = first g i := by
  have hl := first_le g i
  refine first_of f i _ ((h _ _ (by omega) hi).2 (first_eq g i)) fun j hj e => ?_
  exact first_ne g i j hj ((h _ _ (by omega) hi).1 e)
theorem cls_congr {f g : Nat → Int} {n : Nat} (h : ∀ i j, i < n → j < n → (f i = f j ↔ g i = g j)) {i : Nat} (hi : i < n) : cls f i = cls g i := by
  have hl := first_le f i
  unfold cls
  rw [rank_congr h (by omega), first_congr h hi]
theorem cls_cls (f : Nat → Int) (i : Nat) : cls (fun k => (cls f k : Int)) i = cls f i :=
  cls_congr (n := i + 1) (fun _ _ _ _ => cls_iffZ) (by omega)
theorem rank_cls (f : Nat → Int) (n : Nat) : rank (fun k => (cls f k : Int)) n = rank f n :=
  rank_congr (n := n) (fun _ _ _ _ => cls_iffZ) (by omega)
theorem cls_ext {f g : Nat → Int} {n : Nat} (h : ∀ i, i < n → f i = g i) {i : Nat} (hi : i < n) : cls f i = cls g i :=
  cls_congr (fun a b ha hb => by rw [h a ha, h b hb]) hi
theorem rank_ext {f g : Nat → Int} {n : Nat} (h : ∀ i, i < n → f i = g i) {i : Nat} (hi : i ≤ n) : rank f i = rank g i :=
  rank_congr (fun a b ha hb => by rw [h a ha, h b hb]) hi

/-- validity, element by element: how many classes so far -/
def vt (f : Nat → Int) : Nat → Option Nat
  | 0 => some 0
  | k + 1 => match vt f k with
    | none => none
    | some m => if 0 ≤ f k ∧ f k ≤ (m : Int) then some (if f k = (m : Int) then m + 1 else m) else none

theorem vt_some {f : Nat → Int} {k m : Nat} (h : vt f k = some m) : (∀ i, i < k → f i = (cls f i : Int)) ∧ m = rank f k := by
  induction k generalizing m with
  | zero => simp only [vt, Option.some.injEq] at h; exact ⟨fun i hi => absurd hi (Nat.not_lt_zero _), h.symm⟩
  | succ k ih =>
    unfold vt at h
    cases hv : vt f k with
    | none => rw [hv] at h; exact absurd h (by simp)
    | some m0 =>
      rw [hv] at h
      obtain ⟨h1, h2⟩ := ih hv
      simp only at h
      by_cases hb : 0 ≤ f k ∧ f k ≤ (m0 : Int)
      · rw [if_pos hb] at h
        simp only [Option.some.injEq] at h
        by_cases e : f k = (m0 : Int)
        · rw [if_pos e] at h
          have hn : newB f k = true := newB_true.2 fun j hj ej => by
            have h3 := h1 j hj
            have h4 := cls_lt' f hj
            rw [ej, e] at h3
            omega
          refine ⟨fun i hi => ?_, by rw [rank_new hn]; omega⟩
          by_cases ei : i = k
          · rw [ei, cls_new hn, e, h2]
          · exact h1 i (by omega)
        · rw [if_neg e] at h
          obtain ⟨c, hc⟩ : ∃ c : Nat, f k = (c : Int) := ⟨(f k).toNat, by omega⟩
          obtain ⟨j, hj, ej⟩ := cls_surj f k c (by omega)
          have hjk : f j = f k := by rw [h1 j hj, ej, hc]
          have hn : newB f k = false := by
            cases hh : newB f k with
            | false => rfl
            | true => exact absurd hjk (newB_true.1 hh j hj)
          refine ⟨fun i hi => ?_, by rw [rank_old hn]; omega⟩
          by_cases ei : i = k
          · rw [ei, ← cls_same hjk, ej, hc]
          · exact h1 i (by omega)
      · rw [if_neg hb] at h; exact absurd h (by simp)
theorem vt_of {f : Nat → Int} {k : Nat} (h : ∀ i, i < k → f i = (cls f i : Int)) : vt f k = some (rank f k) := by
  induction k with
  | zero => rfl
  | succ k ih =>
    unfold vt
    rw [ih fun i hi => h i (by omega)]
    have hk := h k (by omega)
    have hl := cls_le f k
    simp only
    rw [if_pos ⟨by omega, by omega⟩]
    cases hn : newB f k with
    | true => rw [cls_new hn] at hk; rw [if_pos hk, rank_new hn]
    | false => have := cls_old hn; rw [if_neg (by omega), rank_old hn]
theorem vt_le {f : Nat → Int} {k m : Nat} (h : vt f k = some m) : m ≤ k := by rw [(vt_some h).2]; exact rank_le f k
theorem vt_prefix {f : Nat → Int} {k n : Nat} (hk : k ≤ n) (h : (vt f n).isSome = true) : (vt f k).isSome = true := by
  obtain ⟨m, hm⟩ := Option.isSome_iff_exists.1 h
  rw [vt_of fun i hi => (vt_some hm).1 i (by omega)]; rfl
theorem vt_none {f : Nat → Int} {k n : Nat} (hk : k ≤ n) (h : vt f k = none) : vt f n = none := by
  cases hn : vt f n with
  | none => rfl
  | some m =>
    have := vt_prefix hk (by rw [hn]; rfl)
    rw [h] at this; exact absurd this (by decide)

theorem vt_bad {f : Nat → Int} {k m : Nat} (h : vt f k = some m) (hb : ¬ (0 ≤ f k ∧ f k ≤ (m : Int))) : vt f (k + 1) = none := by
  unfold vt; rw [h]; simp only; rw [if_neg hb]
theorem vt_eq {f : Nat → Int} {k m : Nat} (h : vt f k = some m) (e : f k = (m : Int)) : vt f (k + 1) = some (m + 1) := by
  unfold vt; rw [h]; simp only; rw [if_pos ⟨by omega, by omega⟩, if_pos e]
theorem vt_lt {f : Nat → Int} {k m : Nat} (h : vt f k = some m) (h0 : 0 ≤ f k) (h1 : f k < (m : Int)) : vt f (k + 1) = some m := by
  unfold vt; rw [h]; simp only; rw [if_pos ⟨h0, by omega⟩, if_neg (by omega)]

/-- the labels of a list -/
def lab (zs : List Int) (i : Nat) : Int := zs.getD i 0
/-- is the list a partition? -/
def vB (zs : List Int) : Bool := (vt (lab zs) zs.length).isSome
/-- how many classes -/
def cntL (zs : List Int) : Nat := rank (lab zs) zs.length
/-- the partition by labels -/
def ofF (f : Nat → Int) (n : Nat) : List Int := (List.range n).map fun i => (cls f i : Int)
def ofL (zs : List Int) : List Int := ofF (lab zs) zs.length

theorem ofF_length (f : Nat → Int) (n : Nat) : (ofF f n).length = n := by simp [ofF]
theorem ofL_length (zs : List Int) : (ofL zs).length = zs.length := ofF_length _ _
theorem lab_ofF (f : Nat → Int) (n i : Nat) (hi : i < n) : lab (ofF f n) i = (cls f i : Int) := by
  unfold lab ofF
  rw [List.getD_eq_getElem?_getD, List.getElem?_map, List.getElem?_range hi]; rfl
theorem ofF_succ (f : Nat → Int) (n : Nat) : ofF f (n + 1) = ofF f n ++ [(cls f n : Int)] := by simp [ofF, List.range_succ]
theorem list_ext {a b : List Int} (hl : a.length = b.length) (h : ∀ i, i < a.length → lab a i = lab b i) : a = b := by
  apply List.ext_getElem hl
  intro i h1 h2
  have := h i h1
  unfold lab at this
  rw [List.getD_eq_getElem?_getD, List.getD_eq_getElem?_getD, List.getElem?_eq_getElem h1, List.getElem?_eq_getElem h2] at this
  exact this
theorem ofF_congr {f g : Nat → Int} {n : Nat} (h : ∀ i j, i < n → j < n → (f i = f j ↔ g i = g j)) : ofF f n = ofF g n :=
  list_ext (by rw [ofF_length, ofF_length]) fun i hi => by
    rw [ofF_length] at hi
    rw [lab_ofF _ _ _ hi, lab_ofF _ _ _ hi, cls_congr h hi]
theorem vB_no {zs : List Int} {k : Nat} (hk : k ≤ zs.length) (h : vt (lab zs) k = none) : vB zs = false := by unfold vB; rw [vt_none hk h]; rfl
theorem vB_yes {zs : List Int} {m : Nat} (h : vt (lab zs) zs.length = some m) : vB zs = true := by unfold vB; rw [h]; rfl
theorem vB_iff {zs : List Int} : vB zs = true ↔ ∀ i, i < zs.length → lab zs i = (cls (lab zs) i : Int) := by
  unfold vB
  constructor
  · intro h
    obtain ⟨m, hm⟩ := Option.isSome_iff_exists.1 h
    exact (vt_some hm).1
  · intro h
    rw [vt_of h]; rfl
theorem vB_vt {zs : List Int} (h : vB zs = true) : vt (lab zs) zs.length = some (cntL zs) := vt_of (vB_iff.1 h)
theorem vB_ofF (f : Nat → Int) (n : Nat) : vB (ofF f n) = true := by
  rw [vB_iff, ofF_length]
  intro i hi
  rw [lab_ofF _ _ _ hi, cls_ext (g := fun k => (cls f k : Int)) (fun k hk => lab_ofF f n k hk) hi, cls_cls]
theorem cntL_ofF (f : Nat → Int) (n : Nat) : cntL (ofF f n) = rank f n := by
  unfold cntL
  rw [ofF_length, rank_ext (g := fun k => (cls f k : Int)) (fun k hk => lab_ofF f n k hk) (Nat.le_refl _), rank_cls]
theorem ofL_self {zs : List Int} (h : vB zs = true) : ofL zs = zs :=
  list_ext (ofL_length _) fun i hi => by
    rw [ofL_length] at hi
    show lab (ofF _ _) i = _
    rw [lab_ofF _ _ _ hi, ← vB_iff.1 h i hi]
theorem ofL_eq_iff {zs : List Int} : ofL zs = zs ↔ vB zs = true := by
  constructor
  · intro h
    have := vB_ofF (lab zs) zs.length
    show vB zs = true
    rw [show ofF (lab zs) zs.length = zs from h] at this
    exact this
  · exact ofL_self
theorem valid_lt {zs : List Int} (h : vB zs = true) {i : Nat} (hi : i < zs.length) : 0 ≤ lab zs i ∧ lab zs i < (cntL zs : Int) := by
  rw [vB_iff.1 h i hi]
  have := cls_lt' (lab zs) hi
  unfold cntL
  omega
theorem cntL_le (zs : List Int) : cntL zs ≤ zs.length := rank_le _ _
/-- valid lists are equal if they separate the same -/
theorem valid_eq {a b : List Int} (ha : vB a = true) (hb : vB b = true) (hl : a.length = b.length) (h : ∀ i j, i < a.length → j < a.length → (lab a i = lab a j ↔ lab b i = lab b j)) : a = b := by
  rw [← ofL_self ha, ← ofL_self hb]
  unfold ofL
  rw [← hl]
  exact ofF_congr h
/-- equal labels of a result: equal labels of what it was made of -/
theorem ofF_lab_iff (f : Nat → Int) (n : Nat) {i j : Nat} (hi : i < n) (hj : j < n) : lab (ofF f n) i = lab (ofF f n) j ↔ f i = f j := by
  rw [lab_ofF _ _ _ hi, lab_ofF _ _ _ hj]; exact cls_iffZ
end Go.Proofs.YtcicejmahlobhaaDoor.Kp
