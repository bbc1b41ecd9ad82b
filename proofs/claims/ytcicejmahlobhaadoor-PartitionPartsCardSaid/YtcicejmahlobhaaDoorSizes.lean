import Derived.Test.YtcicejmahlobhaaDoorMath
/- Plain laws of sizes, classes and pairs. -/
namespace Go.Proofs.YtcicejmahlobhaaDoor.Kp

/-- how many elements below n have the label c -/
def cntv (f : Nat → Int) (c : Int) : Nat → Nat
  | 0 => 0
  | n + 1 => cntv f c n + (if f n = c then 1 else 0)
theorem cntv_le (f : Nat → Int) (c : Int) (n : Nat) : cntv f c n ≤ n := by
  induction n with
  | zero => exact Nat.le_refl _
  | succ n ih => show cntv f c n + _ ≤ _; split <;> omega
theorem cntv_hit {f : Nat → Int} {c : Int} {n : Nat} (h : f n = c) : cntv f c (n + 1) = cntv f c n + 1 := by
  show cntv f c n + _ = _; rw [if_pos h]
theorem cntv_miss {f : Nat → Int} {c : Int} {n : Nat} (h : f n ≠ c) : cntv f c (n + 1) = cntv f c n := by
  show cntv f c n + _ = _; rw [if_neg h]; rfl
theorem cntv_none {f : Nat → Int} {c : Int} {n : Nat} (h : ∀ i, i < n → f i ≠ c) : cntv f c n = 0 := by
  induction n with
  | zero => rfl
  | succ n ih => rw [cntv_miss (h n (by omega)), ih fun i hi => h i (by omega)]

/-- the sizes of the classes below m, of the first n elements -/
def szM (f : Nat → Int) (m n : Nat) : List Int := (List.range m).map fun (c : Nat) => (cntv f (c : Int) n : Int)
theorem szM_length (f : Nat → Int) (m n : Nat) : (szM f m n).length = m := by simp [szM]
theorem szM_get (f : Nat → Int) (m n c : Nat) (h : c < m) : (szM f m n).getD c 0 = (cntv f (c : Int) n : Int) := by
  unfold szM
  rw [List.getD_eq_getElem?_getD, List.getElem?_map, List.getElem?_range h]; rfl
theorem szM_grow {f : Nat → Int} {n : Nat} (hv : ∀ i, i < n → f i = (cls f i : Int)) : szM f (rank f n + 1) n = szM f (rank f n) n ++ [0] := by
  unfold szM
  rw [List.range_succ, List.map_append]
  congr 1
  simp only [List.map_cons, List.map_nil]
  rw [cntv_none fun i hi e => by
    have h1 := hv i hi
    have h2 := cls_lt' f hi
    omega]; rfl
theorem szM_set {f : Nat → Int} {m n c : Nat} (hc : c < m) (h : f n = (c : Int)) : (szM f m n).set c ((cntv f (c : Int) n : Int) + 1) = szM f m (n + 1) := by
  apply List.ext_getElem?
  intro i
  unfold szM
  rw [List.getElem?_set, List.getElem?_map, List.getElem?_map]
  by_cases e : c = i
  · subst e
    rw [if_pos rfl, if_pos (by simp; exact hc), List.getElem?_range hc]
    simp only [Option.map_some, Option.some.injEq]
    rw [cntv_hit h]; omega
  · rw [if_neg e]
    by_cases hi : i < m
    · rw [List.getElem?_range hi]
      simp only [Option.map_some, Option.some.injEq]
      rw [cntv_miss (by omega)]
    · rw [List.getElem?_eq_none (by simpa using hi)]; rfl
theorem szM_bd (f : Nat → Int) (m n : Nat) (hn : n ≤ 1000000) : ∀ x ∈ szM f m n, 0 ≤ x ∧ x ≤ 1000000 := by
  intro x hx
  obtain ⟨c, _, rfl⟩ := List.mem_map.1 hx
  have := cntv_le f c n
  omega
/-- the sizes of a list's classes, none of what is no partition -/
def szL (zs : List Int) : List Int := if vB zs then szM (lab zs) (cntL zs) zs.length else []
def cnt0 (zs : List Int) : Nat := if vB zs then cntL zs else 0
theorem szL_length (zs : List Int) : (szL zs).length = cnt0 zs := by
  unfold szL cnt0
  split
  · exact szM_length _ _ _
  · rfl
theorem cnt0_le (zs : List Int) : cnt0 zs ≤ zs.length := by
  unfold cnt0
  split
  · exact cntL_le zs
  · omega
theorem szL_bd (zs : List Int) (h : zs.length ≤ 1000000) : ∀ x ∈ szL zs, 0 ≤ x ∧ x ≤ 1000000 := by
  unfold szL
  split
  · exact szM_bd _ _ _ h
  · intro x hx; cases hx

/-- the elements below n of the class c -/
def clF (f : Nat → Int) (c : Int) : Nat → List Int
  | 0 => []
  | n + 1 => clF f c n ++ (if f n = c then [(n : Int)] else [])
theorem clF_length (f : Nat → Int) (c : Int) (n : Nat) : (clF f c n).length = cntv f c n := by
  induction n with
  | zero => rfl
  | succ n ih =>
    show (clF f c n ++ _).length = cntv f c n + _
    rw [List.length_append, ih]
    split <;> rfl
theorem clF_hit {f : Nat → Int} {c : Int} {n : Nat} (h : f n = c) : clF f c (n + 1) = clF f c n ++ [(n : Int)] := by
  show clF f c n ++ _ = _; rw [if_pos h]
theorem clF_miss {f : Nat → Int} {c : Int} {n : Nat} (h : f n ≠ c) : clF f c (n + 1) = clF f c n := by
  show clF f c n ++ _ = _; rw [if_neg h, List.append_nil]
theorem clF_bd (f : Nat → Int) (c : Int) (n : Nat) (hn : n ≤ 1000000) : ∀ x ∈ clF f c n, 0 ≤ x ∧ x ≤ 1000000 := by
  induction n with
  | zero => intro x hx; cases hx
  | succ n ih =>
    intro x hx
    rcases List.mem_append.1 hx with h | h
    · exact ih (by omega) x h
    · split at h
      · simp at h; omega
      · cases h
def clL (zs : List Int) (c : Int) : List Int := if vB zs then clF (lab zs) c zs.length else []
theorem clL_bd (zs : List Int) (c : Int) (h : zs.length ≤ 1000000) : ∀ x ∈ clL zs c, 0 ≤ x ∧ x ≤ 1000000 := by
  unfold clL
  split
  · exact clF_bd _ _ _ h
  · intro x hx; cases hx

/-- pairs of different labels: k below i -/
def prI (f : Nat → Int) (i : Nat) : Nat → Nat
  | 0 => 0
  | k + 1 => prI f i k + (if f i = f k then 0 else 1)
def prN (f : Nat → Int) : Nat → Nat
  | 0 => 0
  | n + 1 => prN f n + prI f n n
theorem prI_cnt (f : Nat → Int) (i k : Nat) : prI f i k + cntv f (f i) k = k := by
  induction k with
  | zero => rfl
  | succ k ih =>
    show prI f i k + _ + (cntv f (f i) k + _) = _
    by_cases e : f i = f k
    · rw [if_pos e, if_pos e.symm]; omega
    · rw [if_neg e, if_neg (fun h => e h.symm)]; omega
theorem prI_le (f : Nat → Int) (i k : Nat) : prI f i k ≤ k := by have := prI_cnt f i k; omega
theorem prN_le (f : Nat → Int) (n : Nat) : prN f n ≤ n * n := by
  induction n with
  | zero => exact Nat.le_refl _
  | succ n ih =>
    have := prI_le f n n
    have e : (n + 1) * (n + 1) = n * n + n + n + 1 := by rw [Nat.add_mul, Nat.mul_add]; omega
    show prN f n + prI f n n ≤ _
    omega
/-- the sum over the sizes: each size times all before it -/
def e2 : List Nat → Nat → Nat
  | [], _ => 0
  | s :: S, b => b * s + e2 S (b + s)
theorem e2_snoc (S : List Nat) (b s : Nat) : e2 (S ++ [s]) b = e2 S b + (b + S.sum) * s := by
  induction S generalizing b with
  | nil => simp [e2]
  | cons x S ih =>
    simp only [List.cons_append, e2, ih, List.sum_cons]
    rw [show b + x + S.sum = b + (x + S.sum) by omega]; omega
theorem e2_more (S : List Nat) (b d : Nat) : e2 S (b + d) = e2 S b + d * S.sum := by
  induction S generalizing b with
  | nil => simp [e2]
  | cons x S ih =>
    simp only [e2, List.sum_cons]
    rw [show b + d + x = (b + x) + d by omega, ih, Nat.add_mul, Nat.mul_add]; omega
theorem e2_set (S : List Nat) (b c : Nat) (hc : c < S.length) : e2 (S.set c (S.getD c 0 + 1)) b + S.getD c 0 = e2 S b + b + S.sum := by
  induction S generalizing b c with
  | nil => exact absurd hc (by simp)
  | cons x S ih =>
    cases c with
    | zero =>
      simp only [List.set_cons_zero, List.getD_cons_zero, e2, List.sum_cons]
      rw [show b + (x + 1) = (b + x) + 1 by omega, e2_more, Nat.mul_add]; omega
    | succ c =>
      have := ih (b + x) c (by simpa using hc)
      simp only [List.set_cons_succ, List.getD_cons_succ, e2, List.sum_cons]
      omega
theorem sum_set (S : List Nat) (c : Nat) (hc : c < S.length) : (S.set c (S.getD c 0 + 1)).sum = S.sum + 1 := by
  induction S generalizing c with
  | nil => exact absurd hc (by simp)
  | cons x S ih =>
    cases c with
    | zero => simp; omega
    | succ c => have := ih c (by simpa using hc); simp at this ⊢; omega
/-- sizes as numbers -/
def szN (f : Nat → Int) (m n : Nat) : List Nat := (List.range m).map fun (c : Nat) => cntv f (c : Int) n
theorem szM_szN (f : Nat → Int) (m n : Nat) : szM f m n = (szN f m n).map fun (x : Nat) => (x : Int) := by simp [szM, szN]
theorem szN_length (f : Nat → Int) (m n : Nat) : (szN f m n).length = m := by simp [szN]
theorem szN_get (f : Nat → Int) (m n c : Nat) (h : c < m) : (szN f m n).getD c 0 = cntv f (c : Int) n := by
  unfold szN
  rw [List.getD_eq_getElem?_getD, List.getElem?_map, List.getElem?_range h]; rfl
theorem szN_succ {f : Nat → Int} {m n c : Nat} (hc : c < m) (h : f n = (c : Int)) : szN f m (n + 1) = (szN f m n).set c ((szN f m n).getD c 0 + 1) := by
  apply List.ext_getElem?
  intro i
  rw [szN_get _ _ _ _ hc]
  unfold szN
  rw [List.getElem?_set, List.getElem?_map, List.getElem?_map]
  by_cases e : c = i
  · subst e
    rw [if_pos rfl, if_pos (by simp; exact hc), List.getElem?_range hc]
    simp only [Option.map_some, Option.some.injEq]
    rw [cntv_hit h]
  · rw [if_neg e]
    by_cases hi : i < m
    · rw [List.getElem?_range hi]
      simp only [Option.map_some, Option.some.injEq]
      rw [cntv_miss (by omega)]
    · rw [List.getElem?_eq_none (by simpa using hi)]; rfl
theorem szN_zero (f : Nat → Int) (m : Nat) : szN f m 0 = List.replicate m 0 := by
  unfold szN
  exact List.map_const.trans (by rw [List.length_range])
theorem e2_zero (m b : Nat) : e2 (List.replicate m 0) b = 0 := by
  induction m generalizing b with
  | zero => rfl
  | succ m ih => simp only [List.replicate_succ, e2, ih]; omega
/-- both ways to count the pairs -/
theorem e2_pairs {f : Nat → Int} {m n : Nat} (hv : ∀ i, i < n → 0 ≤ f i ∧ f i < (m : Int)) : e2 (szN f m n) 0 = prN f n ∧ (szN f m n).sum = n := by
  induction n with
  | zero => rw [szN_zero, e2_zero]; exact ⟨rfl, by simp⟩
  | succ n ih =>
    obtain ⟨h1, h2⟩ := ih fun i hi => hv i (by omega)
    have hn := hv n (by omega)
    obtain ⟨c, hc⟩ : ∃ c : Nat, f n = (c : Int) := ⟨(f n).toNat, by omega⟩
    have hcm : c < m := by omega
    have hs := e2_set (szN f m n) 0 c (by rw [szN_length]; exact hcm)
    have ht := sum_set (szN f m n) c (by rw [szN_length]; exact hcm)
    rw [← szN_succ hcm hc, szN_get _ _ _ _ hcm, h1, h2] at hs
    rw [← szN_succ hcm hc, h2] at ht
    have hp := prI_cnt f n n
    rw [hc] at hp
    refine ⟨?_, ht⟩
    show _ = prN f n + prI f n n
    omega
def prL (zs : List Int) : Nat := if vB zs then prN (lab zs) zs.length else 0

/-- the greatest -/
def mxL (S : List Nat) : Nat := S.foldl max 0
theorem mxL_snoc (S : List Nat) (x : Nat) : mxL (S ++ [x]) = max (mxL S) x := by simp [mxL, List.foldl_append]
end Go.Proofs.YtcicejmahlobhaaDoor.Kp
