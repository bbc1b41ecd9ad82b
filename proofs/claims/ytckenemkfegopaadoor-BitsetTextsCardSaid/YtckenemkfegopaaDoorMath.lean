/- Plain laws of sets as words of 64 bits: no Go in sight. -/
namespace Go.Proofs.YtckenemkfegopaaDoor.Kb

/-- bit i of a list of words -/
def bitAt (ws : List Nat) (i : Nat) : Bool := (ws.getD (i / 64) 0).testBit (i % 64)

/-- the number with the bits f 0 .. f (k-1) -/
def wordTo (f : Nat → Bool) : Nat → Nat
  | 0 => 0
  | k + 1 => wordTo f k + (if f k then 2 ^ k else 0)

theorem wordTo_lt (f : Nat → Bool) (k : Nat) : wordTo f k < 2 ^ k := by
  induction k with
  | zero => simp [wordTo]
  | succ k ih =>
    have h2 : 2 ^ (k + 1) = 2 ^ k + 2 ^ k := by rw [Nat.pow_succ]; omega
    unfold wordTo
    split <;> omega

theorem wordTo_testBit (f : Nat → Bool) (k i : Nat) : (wordTo f k).testBit i = (decide (i < k) && f i) := by
  induction k with
  | zero => simp [wordTo]
  | succ k ih =>
    have hlt := wordTo_lt f k
    unfold wordTo
    by_cases hf : f k = true
    · rw [if_pos hf, Nat.add_comm]
      rcases Nat.lt_trichotomy i k with h | h | h
      · rw [Nat.testBit_two_pow_add_gt h, ih]
        simp [h, Nat.lt_succ_of_lt h]
      · subst h
        rw [Nat.testBit_two_pow_add_eq, Nat.testBit_lt_two_pow hlt]
        simp [hf]
      · rw [Nat.testBit_lt_two_pow]
        · have : ¬ i < k + 1 := by omega
          simp [this]
        · calc 2 ^ k + wordTo f k < 2 ^ k + 2 ^ k := by omega
            _ = 2 ^ (k + 1) := by rw [Nat.pow_succ]; omega
            _ ≤ 2 ^ i := Nat.pow_le_pow_right (by omega) (by omega)
    · rw [if_neg hf, Nat.add_zero, ih]
      have hf' : f k = false := by simpa using hf
      by_cases hik : i = k
      · subst hik; simp [hf']
      · have : (i < k + 1) ↔ (i < k) := by omega
        simp [this]

/-- how many words a set of n integers takes -/
def nw (n : Nat) : Nat := (n + 63) / 64

/-- the words of the set of the integers i below n with f i -/
def mkWords (n : Nat) (f : Nat → Bool) : List Nat := (List.range (nw n)).map fun w => wordTo (fun i => decide (64 * w + i < n) && f (64 * w + i)) 64

theorem mkWords_length (n : Nat) (f : Nat → Bool) : (mkWords n f).length = nw n := by simp [mkWords]

theorem bitAt_mkWords (n : Nat) (f : Nat → Bool) (i : Nat) : bitAt (mkWords n f) i = (decide (i < n) && f i) := by
  unfold bitAt mkWords
  have hm : i % 64 < 64 := Nat.mod_lt _ (by decide)
  have hi : 64 * (i / 64) + i % 64 = i := Nat.div_add_mod i 64
  by_cases h : i / 64 < nw n
  · rw [List.getD_eq_getElem?_getD, List.getElem?_map, List.getElem?_range h]
    simp only [Option.map_some, Option.getD_some, wordTo_testBit, hi, hm, decide_true, Bool.true_and]
  · have hn : ¬ i < n := by unfold nw at h; omega
    rw [List.getD_eq_getElem?_getD, List.getElem?_map, List.getElem?_eq_none (by simpa using h)]
    simp [hn]

/-- the words of a set of n integers: as many as are wanted, each below 2^64, no bit from n on -/
structure Ok (n : Nat) (ws : List Nat) : Prop where
  len : ws.length = nw n
  lt : ∀ x ∈ ws, x < 2 ^ 64
  tail : ∀ i, n ≤ i → bitAt ws i = false

theorem mkWords_lt (n : Nat) (f : Nat → Bool) : ∀ x ∈ mkWords n f, x < 2 ^ 64 := by
  intro x hx
  unfold mkWords at hx
  obtain ⟨w, _, rfl⟩ := List.mem_map.1 hx
  exact wordTo_lt _ _

theorem Ok.mk_ (n : Nat) (f : Nat → Bool) : Ok n (mkWords n f) where
  len := mkWords_length n f
  lt := mkWords_lt n f
  tail i hi := by rw [bitAt_mkWords]; simp [Nat.not_lt.2 hi]

theorem eq_of_bits {n : Nat} {ws vs : List Nat} (hw : Ok n ws) (hv : Ok n vs) (h : ∀ i, i < n → bitAt ws i = bitAt vs i) : ws = vs := by
  apply List.ext_getElem?
  intro k
  by_cases hk : k < nw n
  · have h1 : k < ws.length := by rw [hw.len]; exact hk
    have h2 : k < vs.length := by rw [hv.len]; exact hk
    rw [List.getElem?_eq_getElem h1, List.getElem?_eq_getElem h2]
    congr 1
    apply Nat.eq_of_testBit_eq
    intro j
    by_cases hj : j < 64
    · have hd : (64 * k + j) / 64 = k := by omega
      have hm : (64 * k + j) % 64 = j := by omega
      have e : bitAt ws (64 * k + j) = bitAt vs (64 * k + j) := by
        by_cases hn : 64 * k + j < n
        · exact h _ hn
        · rw [hw.tail _ (by omega), hv.tail _ (by omega)]
      unfold bitAt at e
      rw [hd, hm, List.getD_eq_getElem?_getD, List.getD_eq_getElem?_getD, List.getElem?_eq_getElem h1, List.getElem?_eq_getElem h2] at e
      exact e
    · rw [Nat.testBit_lt_two_pow, Nat.testBit_lt_two_pow]
      · exact Nat.lt_of_lt_of_le (hv.lt _ (List.getElem_mem h2)) (Nat.pow_le_pow_right (by omega) (by omega))
      · exact Nat.lt_of_lt_of_le (hw.lt _ (List.getElem_mem h1)) (Nat.pow_le_pow_right (by omega) (by omega))
  · rw [List.getElem?_eq_none (by rw [hw.len]; omega), List.getElem?_eq_none (by rw [hv.len]; omega)]

theorem Ok.eq_mk {n : Nat} {ws : List Nat} (h : Ok n ws) : ws = mkWords n (bitAt ws) :=
  eq_of_bits h (Ok.mk_ n _) fun i hi => by rw [bitAt_mkWords]; simp [hi]

theorem mkWords_congr {n : Nat} {f g : Nat → Bool} (h : ∀ i, i < n → f i = g i) : mkWords n f = mkWords n g :=
  eq_of_bits (Ok.mk_ n f) (Ok.mk_ n g) fun i hi => by rw [bitAt_mkWords, bitAt_mkWords, h i hi]

/-- validity as a Bool -/
def validB (size : Int) (ws : List Nat) : Bool := decide (0 ≤ size) && decide (size ≤ 4096) && decide (ws.length = nw size.toNat) && (List.range (64 * ws.length)).all fun i => decide (i < size.toNat) || !bitAt ws i

theorem validB_iff {size : Int} {ws : List Nat} (hlt : ∀ x ∈ ws, x < 2 ^ 64) : validB size ws = true ↔ 0 ≤ size ∧ size ≤ 4096 ∧ Ok size.toNat ws := by
  unfold validB
  simp only [Bool.and_eq_true, decide_eq_true_eq, List.all_eq_true, List.mem_range, Bool.or_eq_true, Bool.not_eq_true']
  constructor
  · rintro ⟨⟨⟨h0, h1⟩, h2⟩, h3⟩
    refine ⟨h0, h1, h2, hlt, fun i hi => ?_⟩
    by_cases hl : i < 64 * ws.length
    · rcases h3 i hl with h | h
      · omega
      · exact h
    · unfold bitAt
      rw [List.getD_eq_getElem?_getD, List.getElem?_eq_none (by omega)]
      simp
  · rintro ⟨h0, h1, h2⟩
    exact ⟨⟨⟨h0, h1⟩, h2.len⟩, fun i _ => by
      by_cases hi : i < size.toNat
      · exact .inl hi
      · exact .inr (h2.tail i (by omega))⟩

theorem bitAt_set (ws : List Nat) (k x i : Nat) (hk : k < ws.length) : bitAt (ws.set k x) i = if i / 64 = k then x.testBit (i % 64) else bitAt ws i := by
  unfold bitAt
  rw [List.getD_eq_getElem?_getD, List.getElem?_set, List.getD_eq_getElem?_getD]
  by_cases h : k = i / 64
  · rw [if_pos h, if_pos h.symm, if_pos (by omega)]; rfl
  · rw [if_neg h, if_neg (fun e => h e.symm)]

theorem not_testBit (b j : Nat) (hb : b < 2 ^ 64) : (18446744073709551615 - b).testBit j = (decide (j < 64) && !b.testBit j) := by
  have h := Nat.testBit_two_pow_sub_succ hb j
  rw [show (2 : Nat) ^ 64 - (b + 1) = 18446744073709551615 - b by omega] at h
  exact h

theorem Ok.get_lt {n : Nat} {ws : List Nat} (h : Ok n ws) (k : Nat) : ws.getD k 0 < 2 ^ 64 := by
  rw [List.getD_eq_getElem?_getD]
  by_cases hk : k < ws.length
  · rw [List.getElem?_eq_getElem hk]; exact h.lt _ (List.getElem_mem hk)
  · rw [List.getElem?_eq_none (by omega)]; decide

theorem get_lt {ws : List Nat} (h : ∀ x ∈ ws, x < 2 ^ 64) (k : Nat) : ws.getD k 0 < 2 ^ 64 := by
  rw [List.getD_eq_getElem?_getD]
  by_cases hk : k < ws.length
  · rw [List.getElem?_eq_getElem hk]; exact h _ (List.getElem_mem hk)
  · rw [List.getElem?_eq_none (by omega)]; decide

/-- a word set to something below 2^64, no bit from n on -/
theorem Ok.set_ {n : Nat} {ws : List Nat} (h : Ok n ws) (k x : Nat) (hk : k < nw n) (hx : x < 2 ^ 64) (hb : ∀ j, n ≤ 64 * k + j → x.testBit j = false) : Ok n (ws.set k x) where
  len := by rw [List.length_set, h.len]
  lt := by
    intro y hy
    rcases List.mem_or_eq_of_mem_set hy with h1 | rfl
    · exact h.lt _ h1
    · exact hx
  tail i hi := by
    rw [bitAt_set _ _ _ _ (by rw [h.len]; exact hk)]
    split
    · rename_i e; exact hb _ (by omega)
    · exact h.tail i hi

theorem lt_of_testBit {x : Nat} (h : ∀ j, 64 ≤ j → x.testBit j = false) : x < 2 ^ 64 := Nat.lt_pow_two_of_testBit x h

theorem testBit_ge {x j : Nat} (h : x < 2 ^ 64) (hj : 64 ≤ j) : x.testBit j = false :=
  Nat.testBit_lt_two_pow (Nat.lt_of_lt_of_le h (Nat.pow_le_pow_right (by omega) hj))

/-- with i -/
theorem set_or {n : Nat} {ws : List Nat} (h : Ok n ws) (i : Nat) (hi : i < n) :
    ws.set (i / 64) (ws.getD (i / 64) 0 ||| 2 ^ (i % 64)) = mkWords n (fun j => j == i || bitAt ws j) := by
  have hk : i / 64 < nw n := by unfold nw; omega
  have hm : i % 64 < 64 := Nat.mod_lt _ (by decide)
  have hw := h.get_lt (i / 64)
  refine eq_of_bits (h.set_ _ _ hk ?_ ?_) (Ok.mk_ n _) fun j hj => ?_
  · exact Nat.or_lt_two_pow hw (Nat.pow_lt_pow_right (by omega) hm)
  · intro j hj
    rw [Nat.testBit_or, Nat.testBit_two_pow]
    have e : bitAt ws (64 * (i / 64) + j) = false := h.tail _ hj
    by_cases h64 : j < 64
    · unfold bitAt at e
      rw [show (64 * (i / 64) + j) / 64 = i / 64 by omega, show (64 * (i / 64) + j) % 64 = j by omega] at e
      rw [e]
      have : i % 64 ≠ j := by omega
      simp [this]
    · rw [testBit_ge hw (by omega)]
      have : i % 64 ≠ j := by omega
      simp [this]
  · rw [bitAt_mkWords, bitAt_set _ _ _ _ (by rw [h.len]; exact hk)]
    simp only [hj, decide_true, Bool.true_and]
    by_cases e : j / 64 = i / 64
    · rw [if_pos e, Nat.testBit_or, Nat.testBit_two_pow]
      unfold bitAt
      rw [e]
      by_cases e2 : i % 64 = j % 64
      · have : j = i := by omega
        simp [this]
      · have : j ≠ i := by rintro rfl; exact e2 rfl
        simp [e2, this]
    · rw [if_neg e]
      have : j ≠ i := by rintro rfl; exact e rfl
      simp [this]

/-- without i -/
theorem set_andNot {n : Nat} {ws : List Nat} (h : Ok n ws) (i : Nat) (hi : i < n) :
    ws.set (i / 64) (ws.getD (i / 64) 0 &&& (18446744073709551615 - 2 ^ (i % 64))) = mkWords n (fun j => j != i && bitAt ws j) := by
  have hk : i / 64 < nw n := by unfold nw; omega
  have hm : i % 64 < 64 := Nat.mod_lt _ (by decide)
  have hp : (2 : Nat) ^ (i % 64) < 2 ^ 64 := Nat.pow_lt_pow_right (by omega) hm
  have hw := h.get_lt (i / 64)
  refine eq_of_bits (h.set_ _ _ hk ?_ ?_) (Ok.mk_ n _) fun j hj => ?_
  · exact Nat.lt_of_le_of_lt Nat.and_le_left hw
  · intro j hj
    rw [Nat.testBit_and]
    have e : bitAt ws (64 * (i / 64) + j) = false := h.tail _ hj
    by_cases h64 : j < 64
    · unfold bitAt at e
      rw [show (64 * (i / 64) + j) / 64 = i / 64 by omega, show (64 * (i / 64) + j) % 64 = j by omega] at e
      rw [e]; rfl
    · rw [testBit_ge hw (by omega)]; rfl
  · rw [bitAt_mkWords, bitAt_set _ _ _ _ (by rw [h.len]; exact hk)]
    simp only [hj, decide_true, Bool.true_and]
    by_cases e : j / 64 = i / 64
    · rw [if_pos e, Nat.testBit_and, not_testBit _ _ hp, Nat.testBit_two_pow]
      unfold bitAt
      rw [e]
      have hj64 : j % 64 < 64 := Nat.mod_lt _ (by decide)
      by_cases e2 : i % 64 = j % 64
      · have : j = i := by omega
        simp [this]
      · have : j ≠ i := by rintro rfl; exact e2 rfl
        simp [e2, this, hj64]
    · rw [if_neg e]
      have : j ≠ i := by rintro rfl; exact e rfl
      simp [this]

theorem testBit_shift (x m : Nat) : (x / 2 ^ m % 2 == 1) = x.testBit m := by
  rw [Nat.testBit_eq_decide_div_mod_eq]
  by_cases h : x / 2 ^ m % 2 = 1 <;> simp [h]

/-- the impl's test on the last word -/
theorem tail_last {n : Nat} {ws : List Nat} (hl : ws.length = nw n) (hlt : ∀ x ∈ ws, x < 2 ^ 64) (hn : n % 64 ≠ 0) : ws.getD (ws.length - 1) 0 / 2 ^ (n % 64) = 0 ↔ ∀ i, n ≤ i → bitAt ws i = false := by
  have hlen : ws.length - 1 = n / 64 := by rw [hl]; unfold nw; omega
  rw [hlen]
  have hw := get_lt hlt (n / 64)
  constructor
  · intro h i hi
    unfold bitAt
    by_cases e : i / 64 = n / 64
    · rw [e]
      have : ws.getD (n / 64) 0 < 2 ^ (n % 64) := (Nat.div_eq_zero_iff.1 h).resolve_left (by have := Nat.two_pow_pos (n % 64); omega)
      exact Nat.testBit_lt_two_pow (Nat.lt_of_lt_of_le this (Nat.pow_le_pow_right (by omega) (by omega)))
    · rw [List.getD_eq_getElem?_getD, List.getElem?_eq_none (by rw [hl]; unfold nw; omega)]
      simp
  · intro h
    rw [Nat.div_eq_zero_iff]
    right
    apply Nat.lt_pow_two_of_testBit
    intro j hj
    by_cases h64 : j < 64
    · have := h (64 * (n / 64) + j) (by omega)
      unfold bitAt at this
      rwa [show (64 * (n / 64) + j) / 64 = n / 64 by omega, show (64 * (n / 64) + j) % 64 = j by omega] at this
    · exact testBit_ge hw (by omega)

theorem tail_full {n : Nat} {ws : List Nat} (hl : ws.length = nw n) (hn : n % 64 = 0) (i : Nat) (hi : n ≤ i) : bitAt ws i = false := by
  unfold bitAt
  rw [List.getD_eq_getElem?_getD, List.getElem?_eq_none (by rw [hl]; unfold nw; omega)]
  simp

/-- complement of the words, the last one masked -/
theorem compl_word (x m : Nat) (hx : x < 2 ^ 64) (hm : m < 64) (j : Nat) : ((18446744073709551615 - x) &&& (2 ^ m - 1)).testBit j = (decide (j < m) && !x.testBit j) := by
  rw [Nat.testBit_and, not_testBit _ _ hx, Nat.testBit_two_pow_sub_one]
  by_cases h : j < m
  · have : j < 64 := by omega
    simp [h, this]
  · simp [h]

def membersTo (f : Nat → Bool) (k : Nat) : List Nat := (List.range k).filter f

theorem membersTo_succ (f : Nat → Bool) (k : Nat) : membersTo f (k + 1) = membersTo f k ++ (if f k then [k] else []) := by
  unfold membersTo
  rw [List.range_succ, List.filter_append]
  by_cases h : f k = true <;> simp [h]

theorem membersTo_skip (f : Nat → Bool) (a b : Nat) (hab : a ≤ b) (h : ∀ i, a ≤ i → i < b → f i = false) : membersTo f b = membersTo f a := by
  induction b with
  | zero => obtain rfl : a = 0 := by omega
            rfl
  | succ b ih =>
    by_cases e : a = b + 1
    · rw [e]
    · rw [membersTo_succ, h b (by omega) (by omega), ih (by omega) (fun i h1 h2 => h i h1 (by omega))]
      simp

theorem membersTo_le (f : Nat → Bool) (k : Nat) : (membersTo f k).length ≤ k := by
  unfold membersTo
  have := List.length_filter_le f (List.range k)
  simpa using this

/-- the least j from k on below n with f j; -1 if there is none -/
def nextFrom (f : Nat → Bool) (n k : Nat) : Int := match (List.range n).find? (fun j => decide (k ≤ j) && f j) with
  | some j => (j : Int)
  | none => -1

theorem find_range (p : Nat → Bool) (n j : Nat) (hj : j < n) (h : p j = true) (hb : ∀ i, i < j → p i = false) : (List.range n).find? p = some j := by
  rw [List.find?_range_eq_some]
  exact ⟨h, by simpa using hj, fun i hi => by simp [hb i hi]⟩

theorem nextFrom_eq (f : Nat → Bool) (n k j : Nat) (h1 : k ≤ j) (h2 : j < n) (h3 : f j = true) (h4 : ∀ i, k ≤ i → i < j → f i = false) : nextFrom f n k = (j : Int) := by
  unfold nextFrom
  rw [find_range _ n j h2 (by simp [h1, h3]) (fun i hi => by
    by_cases e : k ≤ i
    · simp [h4 i e hi]
    · simp [e])]

theorem nextFrom_none (f : Nat → Bool) (n k : Nat) (h : ∀ i, k ≤ i → i < n → f i = false) : nextFrom f n k = -1 := by
  unfold nextFrom
  rw [List.find?_eq_none.2 (fun x hx => by
    have := List.mem_range.1 hx
    by_cases e : k ≤ x
    · simp [h x e this]
    · simp [e])]

theorem nextFrom_cases (f : Nat → Bool) (n k : Nat) : (nextFrom f n k = -1 ∧ ∀ i, k ≤ i → i < n → f i = false) ∨ ∃ j : Nat, nextFrom f n k = (j : Int) ∧ k ≤ j ∧ j < n ∧ f j = true ∧ ∀ i, k ≤ i → i < j → f i = false := by
  by_cases h : ∃ j, k ≤ j ∧ j < n ∧ f j = true
  · right
    have hex : ∃ j, k ≤ j ∧ j < n ∧ f j = true := h
    -- the least one, by strong induction
    have key : ∀ m, ∀ j, j ≤ m → k ≤ j → j < n → f j = true → ∃ j, k ≤ j ∧ j < n ∧ f j = true ∧ ∀ i, k ≤ i → i < j → f i = false := by
      intro m
      induction m with
      | zero => intro j hm h1 h2 h3; exact ⟨j, h1, h2, h3, fun i _ hi => by omega⟩
      | succ m ih =>
        intro j hm h1 h2 h3
        by_cases hh : ∃ i, k ≤ i ∧ i < j ∧ f i = true
        · obtain ⟨i, a, b, c⟩ := hh
          exact ih i (by omega) a (by omega) c
        · exact ⟨j, h1, h2, h3, fun i a b => by
            cases hfi : f i with
            | false => rfl
            | true => exact absurd ⟨i, a, b, hfi⟩ hh⟩
    obtain ⟨j, h1, h2, h3⟩ := hex
    obtain ⟨j, a, b, c, d⟩ := key j j (Nat.le_refl _) h1 h2 h3
    exact ⟨j, nextFrom_eq f n k j a b c d, a, b, c, d⟩
  · left
    have hn : ∀ i, k ≤ i → i < n → f i = false := fun i a b => by
      cases hfi : f i with
      | false => rfl
      | true => exact absurd ⟨i, a, b, hfi⟩ h
    exact ⟨nextFrom_none f n k hn, hn⟩

theorem mask_testBit (x r j : Nat) : (x / 2 ^ r * 2 ^ r).testBit j = (decide (r ≤ j) && x.testBit j) := by
  rw [Nat.testBit_mul_two_pow]
  by_cases h : r ≤ j
  · simp only [h, decide_true, Bool.true_and]
    rw [Nat.testBit_div_two_pow, Nat.sub_add_cancel h]
  · simp [h]

theorem mask_le (x r : Nat) : x / 2 ^ r * 2 ^ r ≤ x := Nat.div_mul_le_self _ _

/-- a row that is filled word by word -/
def fill (m k : Nat) (f : Nat → Nat) : List Nat := (List.range m).map fun i => if i < k then f i else 0

theorem fill_length (m k : Nat) (f : Nat → Nat) : (fill m k f).length = m := by simp [fill]
theorem fill_zero (m : Nat) (f : Nat → Nat) : fill m 0 f = List.replicate m 0 := by
  unfold fill
  exact List.map_const.trans (by rw [List.length_range])
theorem fill_set (m k : Nat) (f : Nat → Nat) (hk : k < m) : (fill m k f).set k (f k) = fill m (k + 1) f := by
  apply List.ext_getElem?
  intro i
  unfold fill
  rw [List.getElem?_set, List.getElem?_map, List.getElem?_map]
  by_cases h : k = i
  · subst h
    rw [if_pos rfl, if_pos (by simp; exact hk), List.getElem?_range hk]
    simp
  · rw [if_neg h]
    by_cases hi : i < m
    · rw [List.getElem?_range hi]
      have : (i < k + 1) ↔ (i < k) := by omega
      simp [this]
    · rw [List.getElem?_eq_none (by simpa using hi)]; rfl
theorem fill_getD (m k : Nat) (f : Nat → Nat) (i : Nat) (hi : i < m) : (fill m k f).getD i 0 = if i < k then f i else 0 := by
  unfold fill
  rw [List.getD_eq_getElem?_getD, List.getElem?_map, List.getElem?_range hi]; rfl
theorem fill_lt (m k : Nat) (f : Nat → Nat) (hf : ∀ i, f i < 2 ^ 64) : ∀ x ∈ fill m k f, x < 2 ^ 64 := by
  intro x hx
  obtain ⟨i, _, rfl⟩ := List.mem_map.1 hx
  split
  · exact hf i
  · decide

theorem bitAt_fill (m : Nat) (f : Nat → Nat) (i : Nat) : bitAt (fill m m f) i = (decide (i / 64 < m) && (f (i / 64)).testBit (i % 64)) := by
  unfold bitAt
  by_cases h : i / 64 < m
  · rw [fill_getD m m f _ h, if_pos h]; simp [h]
  · rw [List.getD_eq_getElem?_getD, List.getElem?_eq_none (by rw [fill_length]; omega)]; simp [h]

/-- two sets, word by word -/
theorem fill_merge {n : Nat} {a b : List Nat} (ha : Ok n a) (hb : Ok n b) (g : Nat → Nat → Nat) (op : Bool → Bool → Bool) (hg : ∀ x y j, x < 2 ^ 64 → y < 2 ^ 64 → (g x y).testBit j = (decide (j < 64) && op (x.testBit j) (y.testBit j))) (h0 : op false false = false) :
    fill (nw n) (nw n) (fun i => g (a.getD i 0) (b.getD i 0)) = mkWords n (fun i => op (bitAt a i) (bitAt b i)) := by
  have hlt : ∀ i, g (a.getD i 0) (b.getD i 0) < 2 ^ 64 := fun i => lt_of_testBit fun j hj => by
    rw [hg _ _ _ (ha.get_lt i) (hb.get_lt i)]; simp [Nat.not_lt.2 hj]
  have hbit : ∀ i, i / 64 < nw n → bitAt (fill (nw n) (nw n) (fun i => g (a.getD i 0) (b.getD i 0))) i = op (bitAt a i) (bitAt b i) := fun i hi => by
    rw [bitAt_fill, hg _ _ _ (ha.get_lt _) (hb.get_lt _)]
    have : i % 64 < 64 := Nat.mod_lt _ (by decide)
    simp only [hi, this, decide_true, Bool.true_and]
    rfl
  refine eq_of_bits ⟨fill_length _ _ _, fill_lt _ _ _ hlt, fun i hi => ?_⟩ (Ok.mk_ n _) fun i hi => ?_
  · by_cases h : i / 64 < nw n
    · rw [hbit i h, ha.tail i hi, hb.tail i hi, h0]
    · rw [bitAt_fill]; simp [h]
  · rw [hbit i (by unfold nw; omega), bitAt_mkWords]; simp [hi]

theorem compl_full {n : Nat} {a : List Nat} (ha : Ok n a) (hn : n % 64 = 0) : fill (nw n) (nw n) (fun i => 18446744073709551615 - a.getD i 0) = mkWords n (fun i => !bitAt a i) := by
  have hlt : ∀ i, 18446744073709551615 - a.getD i 0 < 2 ^ 64 := fun i => by omega
  refine eq_of_bits ⟨fill_length _ _ _, fill_lt _ _ _ hlt, fun i hi => ?_⟩ (Ok.mk_ n _) fun i hi => ?_
  · exact tail_full (fill_length _ _ _) hn i hi
  · have h1 : i / 64 < nw n := by unfold nw; omega
    have h2 : i % 64 < 64 := Nat.mod_lt _ (by decide)
    rw [bitAt_fill, not_testBit _ _ (ha.get_lt _), bitAt_mkWords]
    simp only [hi, h1, h2, decide_true, Bool.true_and]
    rfl

theorem compl_masked {n : Nat} {a : List Nat} (ha : Ok n a) (hn : n % 64 ≠ 0) :
    (fill (nw n) (nw n) (fun i => 18446744073709551615 - a.getD i 0)).set (nw n - 1) ((18446744073709551615 - a.getD (nw n - 1) 0) &&& (2 ^ (n % 64) - 1)) = mkWords n (fun i => !bitAt a i) := by
  have hlt : ∀ i, 18446744073709551615 - a.getD i 0 < 2 ^ 64 := fun i => by omega
  have hlast : nw n - 1 = n / 64 := by unfold nw; omega
  have hk : n / 64 < nw n := by unfold nw; omega
  rw [hlast]
  have hbit : ∀ i, bitAt ((fill (nw n) (nw n) (fun i => 18446744073709551615 - a.getD i 0)).set (n / 64) ((18446744073709551615 - a.getD (n / 64) 0) &&& (2 ^ (n % 64) - 1))) i = (decide (i < n) && !bitAt a i) := fun i => by
    have h2 : i % 64 < 64 := Nat.mod_lt _ (by decide)
    rw [bitAt_set _ _ _ _ (by rw [fill_length]; exact hk)]
    by_cases e : i / 64 = n / 64
    · rw [if_pos e, compl_word _ _ (ha.get_lt _) (Nat.mod_lt _ (by decide))]
      have e2 : (i % 64 < n % 64) ↔ (i < n) := by omega
      unfold bitAt
      rw [e]
      simp [e2]
    · rw [if_neg e, bitAt_fill, not_testBit _ _ (ha.get_lt _)]
      by_cases h : i / 64 < nw n
      · have e2 : i < n := by unfold nw at h; omega
        simp only [h, h2, e2, decide_true, Bool.true_and]
        rfl
      · have e2 : ¬ i < n := by unfold nw at h; omega
        simp [h, e2]
  refine eq_of_bits ⟨by rw [List.length_set, fill_length], ?_, fun i hi => ?_⟩ (Ok.mk_ n _) fun i hi => ?_
  · intro y hy
    rcases List.mem_or_eq_of_mem_set hy with h1 | rfl
    · exact fill_lt _ _ _ hlt _ h1
    · exact Nat.lt_of_le_of_lt Nat.and_le_left (hlt _)
  · rw [hbit]; simp [Nat.not_lt.2 hi]
  · rw [hbit, bitAt_mkWords]
/-- the word that Next looks into: bits below f0 struck -/
def maskW (f0 k x : Nat) : Nat := if k = f0 / 64 then x / 2 ^ (f0 % 64) * 2 ^ (f0 % 64) else x

theorem maskW_le (f0 k x : Nat) : maskW f0 k x ≤ x := by
  unfold maskW; split
  · exact mask_le _ _
  · exact Nat.le_refl _

theorem maskW_bit (f0 k : Nat) (ws : List Nat) (hk : f0 / 64 ≤ k) (j : Nat) (hj : j < 64) : (maskW f0 k (ws.getD k 0)).testBit j = (decide (f0 ≤ 64 * k + j) && bitAt ws (64 * k + j)) := by
  have e1 : (64 * k + j) / 64 = k := by omega
  have e2 : (64 * k + j) % 64 = j := by omega
  unfold bitAt maskW
  rw [e1, e2]
  by_cases h : k = f0 / 64
  · rw [if_pos h, mask_testBit]
    have : (f0 % 64 ≤ j) ↔ (f0 ≤ 64 * k + j) := by omega
    simp [this]
  · rw [if_neg h]
    have : f0 ≤ 64 * k + j := by omega
    simp [this]

theorem maskW_zero (f0 k : Nat) (ws : List Nat) (hk : f0 / 64 ≤ k) (h : maskW f0 k (ws.getD k 0) = 0) (i : Nat) (hi : f0 ≤ i) (hik : i / 64 = k) : bitAt ws i = false := by
  have hb := maskW_bit f0 k ws hk (i % 64) (Nat.mod_lt _ (by decide))
  rw [h, show 64 * k + i % 64 = i by omega] at hb
  simpa [hi] using hb.symm

theorem maskW_some {n : Nat} {ws : List Nat} (hok : Ok n ws) (f0 k c : Nat) (hk : f0 / 64 ≤ k) (hinv : ∀ i, f0 ≤ i → i < 64 * k → bitAt ws i = false) (hc : c < 64) (h1 : (maskW f0 k (ws.getD k 0)).testBit c = true) (h2 : ∀ j, j < c → (maskW f0 k (ws.getD k 0)).testBit j = false) : nextFrom (bitAt ws) n f0 = ((64 * k + c : Nat) : Int) := by
  rw [maskW_bit f0 k ws hk c hc] at h1
  simp only [Bool.and_eq_true, decide_eq_true_eq] at h1
  refine nextFrom_eq _ _ _ _ h1.1 ?_ h1.2 fun i a b => ?_
  · rcases Nat.lt_or_ge (64 * k + c) n with h | h
    · exact h
    · rw [hok.tail _ h] at h1; exact absurd h1.2 (by simp)
  · by_cases hi : i < 64 * k
    · exact hinv i a hi
    · have := h2 (i - 64 * k) (by omega)
      rw [maskW_bit f0 k ws hk _ (by omega), show 64 * k + (i - 64 * k) = i by omega] at this
      simpa [a] using this

/-- x = 2^c (2m + 1) -/
theorem low_bit (x c m : Nat) (h : x = 2 ^ c * (2 * m + 1)) : x.testBit c = true ∧ ∀ j, j < c → x.testBit j = false := by
  subst h
  refine ⟨?_, fun j hj => ?_⟩
  · rw [Nat.testBit_two_pow_mul]; simp
  · rw [Nat.testBit_two_pow_mul]; simp [Nat.not_le.2 hj]
end Go.Proofs.YtckenemkfegopaaDoor.Kb
