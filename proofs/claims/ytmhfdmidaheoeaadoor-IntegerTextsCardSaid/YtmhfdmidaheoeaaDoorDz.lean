/- Long division word by word: plain mathematics, of no program. -/
import Derived.Test.YtmhfdmidaheoeaaDoorMath2
namespace Go.Proofs.YtmhfdmidaheoeaaDoor.Kn

/-- one step of p - f * d -/
theorem subm_step {p us d : List Nat} {k f product borrow x q r bo : Nat} (hk : k < us.length) (hx : x = p.getD k 0)
    (hi : val (us.take k) + f * val (d.take k) = val (p.take k) + pw k * (product + borrow))
    (hq : q = product + f * d.getD k 0) (hr : r + q % 4294967296 + borrow = x + 4294967296 * bo) :
    val ((us.set k r).take (k + 1)) + f * val (d.take (k + 1)) = val (p.take (k + 1)) + pw (k + 1) * (q / 4294967296 + bo) := by
  rw [val_set_take _ _ hk, val_take_step p, val_take_step d, ← hx]
  have h2 := pw_divmod k q
  have e2 : pw k * q = pw k * product + f * (pw k * d.getD k 0) := by rw [hq, Nat.mul_add, Nat.mul_left_comm f]
  have e3 : pw k * r + pw k * (q % 4294967296) + pw k * borrow = pw k * x + pw (k + 1) * bo := by
    rw [← Nat.mul_add, ← Nat.mul_add, hr, Nat.mul_add, pw_succ, Nat.mul_comm 4294967296 (pw k), Nat.mul_assoc]
  rw [Nat.mul_add (pw k)] at hi
  rw [Nat.mul_add f, Nat.mul_add (pw (k + 1))]
  omega

/-- a word of a difference with a borrow -/
theorem sub_word (x lo bo : Nat) (hx : x < 4294967296) (hl : lo < 4294967296) (hb : bo ≤ 1) : ∃ r bo' : Nat, r + lo + bo = x + 4294967296 * bo' ∧ r < 4294967296 ∧ bo' ≤ 1 ∧
    (((x : Int) - (lo : Int) - (bo : Int)) % 18446744073709551616) % 4294967296 = (r : Int) ∧ (((x : Int) - (lo : Int) - (bo : Int)) % 18446744073709551616) / 9223372036854775808 = (bo' : Int) := by
  by_cases h : lo + bo ≤ x
  · exact ⟨x - lo - bo, 0, by omega, by omega, by omega, by omega, by omega⟩
  · exact ⟨x + 4294967296 - lo - bo, 1, by omega, by omega, by omega, by omega, by omega⟩

/-- the leading words of a row -/
theorem val_top1 {l : List Nat} {n : Nat} (hl : l.length = n + 1) : val l = val (l.take n) + pw n * l.getD n 0 := by
  have := val_take_succ l (k := n) (by omega)
  rwa [List.take_of_length_le (by omega)] at this
theorem val_top2 {l : List Nat} {n : Nat} (hl : l.length = n + 2) : val l = val (l.take n) + pw n * (l.getD n 0 + 4294967296 * l.getD (n + 1) 0) := by
  rw [val_top1 (n := n + 1) hl, val_take_succ l (k := n) (by omega), pw_succ, Nat.mul_add, Nat.mul_assoc, Nat.mul_left_comm (pw n)]
  omega
theorem val_top3 {l : List Nat} {n : Nat} (hl : l.length = n + 3) : val l = val (l.take n) + pw n * (l.getD n 0 + 4294967296 * (l.getD (n + 1) 0 + 4294967296 * l.getD (n + 2) 0)) := by
  have h := val_top2 (l := l) (n := n + 1) (by omega)
  rw [val_take_succ l (k := n) (by omega), pw_succ, Nat.mul_assoc 4294967296, Nat.mul_left_comm 4294967296 (pw n), show n + 1 + 1 = n + 2 from rfl] at h
  rw [Nat.mul_add]
  omega

/-- what a step of long division is about: the part U, the divisor D, their leading words -/
structure LD (U D P v1 v2 u2 top : Nat) : Prop where
  d : P * (v2 + 4294967296 * v1) ≤ D
  d' : D < P * (v2 + 4294967296 * v1) + P
  u : P * (u2 + 4294967296 * top) ≤ U
  u' : U < P * (u2 + 4294967296 * top) + P
  q : U < 4294967296 * D
  hv1 : 2147483648 ≤ v1
  hv1' : v1 < 4294967296
  hv2 : v2 < 4294967296
  hu2 : u2 < 4294967296
namespace LD
variable {U D P v1 v2 u2 top : Nat}
theorem p (h : LD U D P v1 v2 u2 top) : 0 < P := by
  rcases Nat.eq_zero_or_pos P with h0 | h0
  · have := h.d'; rw [h0] at this; omega
  · exact h0
theorem top_lt (h : LD U D P v1 v2 u2 top) : top < 4294967296 * (v1 + 1) := by
  have h1 := h.u
  have h2 := h.d'
  have h3 := h.q
  have hp := h.p
  have e1 : P * (u2 + 4294967296 * top) = P * u2 + 4294967296 * (P * top) := by rw [Nat.mul_add, Nat.mul_left_comm]
  have e2 : P * (v2 + 4294967296 * v1) = P * v2 + 4294967296 * (P * v1) := by rw [Nat.mul_add, Nat.mul_left_comm]
  have h4 : P * v2 + P ≤ P * 4294967296 := by rw [← Nat.mul_succ]; exact Nat.mul_le_mul_left _ h.hv2
  have h5 : P * top < P * (4294967296 * (v1 + 1)) := by
    rw [Nat.mul_left_comm, Nat.mul_add]; omega
  exact Nat.lt_of_mul_lt_mul_left h5
theorem guess0 (h : LD U D P v1 v2 u2 top) : top / v1 ≤ 4294967297 := by
  have h1 := h.top_lt
  have h2 := h.hv1
  refine Nat.le_of_lt_succ (Nat.div_lt_of_lt_mul ?_)
  have : v1 * Nat.succ 4294967297 = 4294967296 * v1 + 2 * v1 := by omega
  rw [this]; omega
/-- the guess is never too low -/
theorem start (h : LD U D P v1 v2 u2 top) : U < (top / v1 + 1) * D := by
  have h1 : top < (top / v1 + 1) * v1 := by
    have := Nat.lt_mul_div_succ top (show 0 < v1 by have := h.hv1; omega)
    rwa [Nat.mul_comm] at this
  obtain ⟨g, hg⟩ : ∃ g, g = top / v1 + 1 := ⟨_, rfl⟩
  rw [← hg] at h1 ⊢
  have h2 : g * (P * (v2 + 4294967296 * v1)) ≤ g * D := Nat.mul_le_mul_left _ h.d
  have h3 : P * (u2 + 4294967296 * top) + P ≤ g * (P * (v2 + 4294967296 * v1)) := by
    have e : g * (P * (v2 + 4294967296 * v1)) = P * (g * v2 + 4294967296 * (g * v1)) := by
      rw [Nat.mul_left_comm, Nat.mul_add g, Nat.mul_left_comm g]
    rw [e, ← Nat.mul_succ]
    refine Nat.mul_le_mul_left _ ?_
    have := h.hu2
    omega
  have := h.u'
  omega
/-- a guess that must be lowered is too high -/
theorem lower (h : LD U D P v1 v2 u2 top) {g r : Nat} (hg : g * v1 + r = top) (hc : 4294967296 ≤ g ∨ r * 4294967296 + u2 < g * v2) : U < g * D := by
  rcases hc with hc | hc
  · exact Nat.lt_of_lt_of_le h.q (Nat.mul_le_mul_right _ hc)
  · have h2 : g * (P * (v2 + 4294967296 * v1)) ≤ g * D := Nat.mul_le_mul_left _ h.d
    have e : g * (P * (v2 + 4294967296 * v1)) = P * (g * v2 + 4294967296 * (g * v1)) := by
      rw [Nat.mul_left_comm, Nat.mul_add g, Nat.mul_left_comm g]
    have h3 : P * (u2 + 4294967296 * top) + P ≤ P * (g * v2 + 4294967296 * (g * v1)) := by
      rw [← Nat.mul_succ]; exact Nat.mul_le_mul_left _ (by omega)
    have := h.u'
    omega
/-- at the end the guess is a word, and at most one too high -/
theorem word (h : LD U D P v1 v2 u2 top) {g r : Nat} (hg : g * v1 + r = top) (hc : 4294967296 ≤ r ∨ g < 4294967296) : g < 4294967296 := by
  rcases hc with hc | hc
  · have h1 := h.top_lt
    rw [← Nat.not_le]
    intro hx
    have : 4294967296 * v1 ≤ g * v1 := Nat.mul_le_mul_right _ hx
    omega
  · exact hc
theorem near (h : LD U D P v1 v2 u2 top) {g r : Nat} (hg : g * v1 + r = top) (hgl : g < 4294967296) (hc : 4294967296 ≤ r ∨ g * v2 ≤ r * 4294967296 + u2) : g * D < U + D := by
  have hc' : g * v2 ≤ r * 4294967296 + u2 := by
    rcases hc with hc | hc
    · have h1 : g * v2 ≤ 4294967296 * 4294967296 := Nat.mul_le_mul (by omega) (by have := h.hv2; omega)
      omega
    · exact hc
  have h1 : g * D ≤ g * (P * (v2 + 4294967296 * v1) + P) := Nat.mul_le_mul_left _ (by have := h.d'; omega)
  have e : g * (P * (v2 + 4294967296 * v1) + P) = P * (g * v2 + 4294967296 * (g * v1)) + P * g := by
    rw [Nat.mul_add g, Nat.mul_left_comm g, Nat.mul_add g, Nat.mul_left_comm g, Nat.mul_comm g P]
  have h3 : P * (g * v2 + 4294967296 * (g * v1)) ≤ P * (u2 + 4294967296 * top) := Nat.mul_le_mul_left _ (by omega)
  have h4 : P * g < P * (v2 + 4294967296 * v1) := Nat.mul_lt_mul_of_pos_left (by have := h.hv1; omega) h.p
  have := h.u
  have := h.d
  omega
end LD

/-- what is left after the guess has been taken away -/
theorem step_end {U D f u bo X : Nat} (hX : u < X) (h : u + f * D = U + X * bo) (hb : bo ≤ 1) (h1 : U < (f + 1) * D) (h2 : f * D < U + D) (hD : D ≤ X) :
    (bo = 0 → U = f * D + u ∧ u < D) ∧ (bo = 1 → 0 < f ∧ ∀ u' c, u' < X → u' + X * c = u + D → U = (f - 1) * D + u' ∧ u' < D) := by
  rw [Nat.add_mul, Nat.one_mul] at h1
  refine ⟨fun e => ?_, fun e => ?_⟩
  · subst e; rw [Nat.mul_zero] at h; omega
  · subst e
    rw [Nat.mul_one] at h
    have hf : 0 < f := by
      rcases Nat.eq_zero_or_pos f with h0 | h0
      · rw [h0, Nat.zero_mul] at h; omega
      · exact h0
    refine ⟨hf, fun u' c hu hc => ?_⟩
    have e : f * D = (f - 1) * D + D := by rw [← Nat.succ_mul, Nat.succ_eq_add_one, Nat.sub_add_cancel hf]
    have hcc : c = 1 := by
      rcases Nat.lt_or_ge c 1 with h3 | h3
      · have : c = 0 := by omega
        subst this
        rw [Nat.mul_zero] at hc
        omega
      · rcases Nat.lt_or_ge 1 c with h4 | h4
        · have : X * 2 ≤ X * c := Nat.mul_le_mul_left _ h4
          omega
        · omega
    subst hcc
    rw [Nat.mul_one] at hc
    omega

/-- a window of a row -/
theorem set_mid (pre us post : List Nat) {k : Nat} (hk : k < us.length) (x : Nat) : (pre ++ us ++ post).set (pre.length + k) x = pre ++ us.set k x ++ post := by
  rw [List.append_assoc, List.set_append_right _ _ (by omega), Nat.add_sub_cancel_left, List.set_append_left _ _ hk, List.append_assoc]
theorem getD_mid (pre us post : List Nat) {k : Nat} (hk : k < us.length) : (pre ++ us ++ post).getD (pre.length + k) 0 = us.getD k 0 := by
  rw [List.append_assoc, List.getD_eq_getElem?_getD, List.getElem?_append_right (by omega), Nat.add_sub_cancel_left, List.getElem?_append_left hk, List.getD_eq_getElem?_getD]
theorem mid_eq (vs : List Nat) (i n : Nat) : vs.take i ++ (vs.drop i).take n ++ vs.drop (i + n) = vs := by
  rw [List.append_assoc, ← List.drop_drop, List.take_append_drop, List.take_append_drop]

/-- one word of a long division: A' = vs + D * (β^k * qs from k on) -/
theorem long_step {A D i n q : Nat} {vs qs us : List Nat} (hi : i < qs.length) (hn : i + (n + 1) ≤ vs.length) (hD : D < pw n)
    (hA : A = val vs + D * (pw (i + 1) * val (qs.drop (i + 1)))) (hv : val (vs.drop (i + 1)) < D)
    (hq : val ((vs.drop i).take (n + 1)) = q * D + val us) (hul : us.length = n + 1) (hus : val us < D) :
    A = val (vs.take i ++ us ++ vs.drop (i + (n + 1))) + D * (pw i * val ((qs.set i q).drop i)) ∧ val ((vs.take i ++ us ++ vs.drop (i + (n + 1))).drop i) < D := by
  have h0 : val (vs.drop (i + (n + 1))) = 0 := by
    have h1 := val_split (vs.drop (i + 1)) n (by rw [List.length_drop]; omega)
    rw [List.drop_drop, show i + 1 + n = i + (n + 1) by omega] at h1
    rcases Nat.eq_zero_or_pos (val (vs.drop (i + (n + 1)))) with h | h
    · exact h
    · have : pw n * 1 ≤ pw n * val (vs.drop (i + (n + 1))) := Nat.mul_le_mul_left _ h
      omega
  have hti : (vs.take i).length = i := by rw [List.length_take]; omega
  have hvs : val vs = val (vs.take i) + pw i * (q * D + val us) := by
    have h1 := val_split vs i (by omega)
    have h2 := val_split (vs.drop i) (n + 1) (by rw [List.length_drop]; omega)
    rw [List.drop_drop, h0, Nat.mul_zero, Nat.add_zero] at h2
    rw [h1, h2, hq]
  have hvs' : val (vs.take i ++ us ++ vs.drop (i + (n + 1))) = val (vs.take i) + pw i * val us := by
    rw [val_append, val_append, h0, Nat.mul_zero, Nat.add_zero, hti]
  have hqs : val ((qs.set i q).drop i) = q + 4294967296 * val (qs.drop (i + 1)) := by
    rw [drop_cons (qs.set i q) (by rw [List.length_set]; exact hi), val_cons, getD_set _ _ _ _ hi, if_pos rfl, drop_set _ _ (by omega)]
  refine ⟨?_, ?_⟩
  · rw [hA, hvs, hvs', hqs, pw_succ, Nat.mul_add (pw i), Nat.mul_add (pw i) q, Nat.mul_add D, Nat.mul_left_comm (pw i) 4294967296, Nat.mul_assoc 4294967296, Nat.mul_comm q D, Nat.mul_left_comm (pw i) D q]
    omega
  · rw [List.append_assoc, List.drop_left' hti, val_append, h0, Nat.mul_zero, Nat.add_zero]; exact hus

/-- a shifted quotient -/
theorem shift_end {n m s q r : Nat} (hm : 0 < m) (h : n * 2 ^ s = r + (m * 2 ^ s) * q) (hr : r < m * 2 ^ s) : q = n / m ∧ r / 2 ^ s = n % m := by
  have hp : 0 < 2 ^ s := Nat.pow_pos (by decide)
  have h1 : (n * 2 ^ s) / (m * 2 ^ s) = n / m := Nat.mul_div_mul_right _ _ hp
  have h2 : (n * 2 ^ s) / (m * 2 ^ s) = q := by
    rw [h, Nat.add_mul_div_left _ _ (Nat.mul_pos hm hp), Nat.div_eq_of_lt hr, Nat.zero_add]
  have h3 : (n * 2 ^ s) % (m * 2 ^ s) = r := by rw [h, Nat.add_mul_mod_self_left, Nat.mod_eq_of_lt hr]
  refine ⟨by rw [← h2, h1], ?_⟩
  rw [← h3, Nat.mul_mod_mul_right, Nat.mul_div_cancel _ hp]

theorem or_low (m : Nat) {x : Nat} (hx : x < 4294967296) : m * 4294967296 ||| x = m * 4294967296 + x := by
  have h := Nat.shiftLeft_add_eq_or_of_lt (i := 32) (show x < 2 ^ 32 by omega) m
  rw [Nat.shiftLeft_eq] at h
  rw [← h]
/-- shifting up, one word -/
theorem up_step {a vs : List Nat} {k cr s t : Nat} (hk : k < vs.length) (hi : val (vs.take k) + pw k * cr = val (a.take k) * 2 ^ s) (ht : t = cr + a.getD k 0 * 2 ^ s) :
    val ((vs.set k (t % 4294967296)).take (k + 1)) + pw (k + 1) * (t / 4294967296) = val (a.take (k + 1)) * 2 ^ s := by
  rw [val_set_take _ _ hk, val_take_step a]
  have h := pw_divmod k t
  have e : pw k * t = pw k * cr + pw k * a.getD k 0 * 2 ^ s := by rw [ht, Nat.mul_add, Nat.mul_assoc]
  rw [Nat.add_mul]
  omega
theorem up_word {cr x s : Nat} (hs : s ≤ 31) (hc : cr < 2 ^ s) (hx : x < 4294967296) : cr ||| x * 2 ^ s = cr + x * 2 ^ s ∧ cr + x * 2 ^ s < 9223372036854775808 ∧ (cr + x * 2 ^ s) / 4294967296 < 2 ^ s := by
  have h := Nat.shiftLeft_add_eq_or_of_lt (i := s) hc x
  rw [Nat.shiftLeft_eq, Nat.or_comm] at h
  have hp : 2 ^ s ≤ 2 ^ 31 := Nat.pow_le_pow_right (by decide) hs
  have h1 : (x + 1) * 2 ^ s ≤ 4294967296 * 2 ^ s := Nat.mul_le_mul_right _ hx
  rw [Nat.add_mul, Nat.one_mul] at h1
  refine ⟨by rw [← h]; omega, by omega, Nat.div_lt_of_lt_mul (by omega)⟩
/-- shifting down, one word -/
theorem down_word {V aj s : Nat} (hs : s ≤ 31) (ha : aj < 4294967296) : ((V % 4294967296 * 4294967296 + aj) / 2 ^ s) % 4294967296 + 4294967296 * (V / 2 ^ s) = (aj + 4294967296 * V) / 2 ^ s := by
  have hp : 0 < 2 ^ s := Nat.pow_pos (by decide)
  have hd : 2 ^ s ∣ 4294967296 := ⟨2 ^ (32 - s), by rw [← Nat.pow_add, show s + (32 - s) = 32 by omega]⟩
  have hm : V % 4294967296 % 2 ^ s = V % 2 ^ s := Nat.mod_mod_of_dvd _ hd
  obtain ⟨hk, hhk⟩ : ∃ h, h = V % 4294967296 := ⟨_, rfl⟩
  rw [← hhk] at hm ⊢
  have e1 := Nat.div_add_mod V (2 ^ s)
  have e2 := Nat.div_add_mod hk (2 ^ s)
  have hlt : V % 2 ^ s < 2 ^ s := Nat.mod_lt _ hp
  have r : aj + 4294967296 * V = aj + 4294967296 * (V % 2 ^ s) + 2 ^ s * (4294967296 * (V / 2 ^ s)) := by
    rw [Nat.mul_left_comm]; omega
  have l : hk * 4294967296 + aj = aj + 4294967296 * (V % 2 ^ s) + 2 ^ s * (4294967296 * (hk / 2 ^ s)) := by
    rw [Nat.mul_left_comm, ← hm]; omega
  rw [r, l, Nat.add_mul_div_left _ _ hp, Nat.add_mul_div_left _ _ hp, Nat.add_mul_mod_self_left, Nat.mod_eq_of_lt]
  refine Nat.div_lt_of_lt_mul ?_
  have : 4294967296 * (V % 2 ^ s + 1) ≤ 4294967296 * 2 ^ s := Nat.mul_le_mul_left _ hlt
  rw [Nat.mul_comm (2 ^ s)]
  omega
theorem val_drop_step' (l : List Nat) {k : Nat} (h : k < l.length) : val (l.drop k) = l.getD k 0 + 4294967296 * val (l.drop (k + 1)) := by
  rw [drop_cons l h, val_cons]
theorem drop_set_here (l : List Nat) {k x : Nat} (h : k < l.length) : val ((l.set k x).drop k) = x + 4294967296 * val (l.drop (k + 1)) := by
  rw [drop_cons (l.set k x) (by rw [List.length_set]; exact h), val_cons, getD_set _ _ _ _ h, if_pos rfl, drop_set _ _ (by omega)]
theorem val_mod (l : List Nat) (h : Wd l) : val l % 4294967296 = l.getD 0 0 := by
  cases l with
  | nil => rfl
  | cons x l => rw [val_cons, Nat.add_mul_mod_self_left, Nat.mod_eq_of_lt h.head]; rfl
theorem val_drop_mod (l : List Nat) (h : Wd l) (k : Nat) : val (l.drop k) % 4294967296 = l.getD k 0 := by
  rw [val_mod _ (h.drop k), List.getD_eq_getElem?_getD, List.getElem?_drop, List.getD_eq_getElem?_getD]; rfl
theorem down_step {a vs : List Nat} {j s : Nat} (hs : s ≤ 31) (ha : Wd a) (hj : j < a.length) (hv : j < vs.length) (hi : val (vs.drop (j + 1)) = val (a.drop (j + 1)) / 2 ^ s) :
    val ((vs.set j (((a.getD (j + 1) 0 * 4294967296 + a.getD j 0) / 2 ^ s) % 4294967296)).drop j) = val (a.drop j) / 2 ^ s := by
  rw [drop_set_here _ hv, hi, val_drop_step' a hj, ← down_word hs (ha.getD j), val_drop_mod a ha]
/-- dividing by a word, one step -/
theorem dw_step {a vs : List Nat} {j n rest q r : Nat} (hj : j < a.length) (hv : j < vs.length) (hi : val (a.drop (j + 1)) = n * val (vs.drop (j + 1)) + rest) (hq : rest * 4294967296 + a.getD j 0 = n * q + r) :
    val (a.drop j) = n * val ((vs.set j q).drop j) + r := by
  rw [drop_set_here _ hv, val_drop_step' a hj, hi, Nat.mul_add n, Nat.mul_left_comm n]
  omega

/-- what the rows of a long division begin with -/
theorem shiftdiv_setup {N M s : Nat} (hn : 2 ≤ (dig M).length) (h1 : 2147483648 ≤ (dig M).getD ((dig M).length - 1) 0 * 2 ^ s) (h2 : (dig M).getD ((dig M).length - 1) 0 * 2 ^ s < 4294967296) :
    M * 2 ^ s < pw (dig M).length ∧ (∀ d, Wd d → d.length = (dig M).length → val d = M * 2 ^ s → 2147483648 ≤ d.getD ((dig M).length - 1) 0) ∧
    (∀ vs, Wd vs → vs.length = (dig N).length + 1 → val vs = N * 2 ^ s → (dig M).length ≤ (dig N).length → val (vs.drop ((dig N).length - (dig M).length + 1)) < M * 2 ^ s) := by
  obtain ⟨k, hk⟩ : ∃ k, (dig M).length = k + 1 := ⟨(dig M).length - 1, by omega⟩
  obtain ⟨l, hl⟩ : ∃ l, l = dig M := ⟨_, rfl⟩
  have hwl : Wd l := by rw [hl]; exact dig_wd M
  have hv : val l = M := by rw [hl]; exact val_dig M
  rw [← hl] at hk h1 h2 hn ⊢
  rw [hk, Nat.add_sub_cancel] at h1 h2 ⊢
  obtain ⟨t, ht⟩ : ∃ t, t = l.getD k 0 := ⟨_, rfl⟩
  rw [← ht] at h1 h2
  have e := val_top1 hk
  rw [hv, ← ht] at e
  have hlow := val_take_lt hwl k
  have hp : 0 < 2 ^ s := Nat.pow_pos (by decide)
  have hup : M + 1 ≤ pw k * (t + 1) := by rw [Nat.mul_add]; omega
  have hdiv : ∃ m, 4294967296 = m * 2 ^ s := by
    have hs : s ≤ 32 := by
      rw [← Nat.not_lt]
      intro hc
      have h3 : 2 ^ 32 * 2 ≤ 2 ^ s := by
        have := Nat.pow_le_pow_right (n := 2) (by decide) hc
        rwa [Nat.succ_eq_add_one, Nat.pow_succ] at this
      have h4 : 1 * 2 ^ s ≤ t * 2 ^ s := Nat.mul_le_mul_right _ (by
        rcases Nat.eq_zero_or_pos t with h0 | h0
        · rw [h0, Nat.zero_mul] at h1; omega
        · exact h0)
      omega
    exact ⟨2 ^ (32 - s), by rw [← Nat.pow_add, show 32 - s + s = 32 by omega]⟩
  have hlt1 : (t + 1) * 2 ^ s ≤ 4294967296 := by
    obtain ⟨m, hm⟩ := hdiv
    rw [hm] at h2 ⊢
    exact Nat.mul_le_mul_right _ (Nat.lt_of_mul_lt_mul_right h2)
  have hMs : M * 2 ^ s < pw (k + 1) := by
    have h3 : (M + 1) * 2 ^ s ≤ pw k * (t + 1) * 2 ^ s := Nat.mul_le_mul_right _ hup
    rw [Nat.mul_assoc] at h3
    have h4 : pw k * ((t + 1) * 2 ^ s) ≤ pw k * 4294967296 := Nat.mul_le_mul_left _ hlt1
    rw [pw_succ, Nat.mul_comm 4294967296]
    rw [Nat.add_mul, Nat.one_mul] at h3
    omega
  have hMge : pw k * 2147483648 ≤ M * 2 ^ s := by
    have h3 : pw k * t * 2 ^ s ≤ M * 2 ^ s := Nat.mul_le_mul_right _ (by omega)
    rw [Nat.mul_assoc] at h3
    exact Nat.le_trans (Nat.mul_le_mul_left _ h1) h3
  refine ⟨hMs, fun d hw hd hvd => ?_, fun vs hw hlv hvv hle => ?_⟩
  · have e2 := val_top1 hd
    have h3 := val_take_lt hw k
    rw [hvd] at e2
    rw [← Nat.not_lt]
    intro hc
    have h4 : pw k * (d.getD k 0 + 1) ≤ pw k * 2147483648 := Nat.mul_le_mul_left _ hc
    rw [Nat.mul_add] at h4
    omega
  · have h3 := val_split vs ((dig N).length - (k + 1) + 1) (by omega)
    rw [hvv] at h3
    have h4 : N * 2 ^ s < pw (dig N).length * 2 ^ s := Nat.mul_lt_mul_of_pos_right dig_lt hp
    have h5 : pw (dig N).length = pw ((dig N).length - (k + 1) + 1) * pw k := by rw [← pw_add]; congr 1; omega
    have h6 : pw ((dig N).length - (k + 1) + 1) * val (vs.drop ((dig N).length - (k + 1) + 1)) < pw ((dig N).length - (k + 1) + 1) * (pw k * 2 ^ s) := by
      rw [← Nat.mul_assoc, ← h5]; omega
    have h7 := Nat.lt_of_mul_lt_mul_left h6
    have h8 : pw k * 2 ^ s ≤ M * 2 ^ s := Nat.mul_le_mul_right _ (by
      have : pw k * 1 ≤ pw k * t := Nat.mul_le_mul_left _ (by
        rcases Nat.eq_zero_or_pos t with h0 | h0
        · rw [h0, Nat.zero_mul] at h1; omega
        · exact h0)
      omega)
    omega

theorem val_take_le (l : List Nat) (k : Nat) : val (l.take k) ≤ val l := by
  by_cases h : k ≤ l.length
  · rw [val_split l k h]; omega
  · rw [List.take_of_length_le (by omega)]; omega
theorem long_pre {vs : List Nat} {j n D : Nat} (hw : Wd vs) (hj : j < vs.length) (hv : val (vs.drop (j + 1)) < D) : val ((vs.drop j).take (n + 1)) < 4294967296 * D := by
  rw [drop_cons vs hj, List.take_succ_cons, val_cons]
  have h1 := hw.getD j
  have h2 := val_take_le (vs.drop (j + 1)) n
  omega
theorem val_take_small {d : List Nat} {n : Nat} (hl : d.length = n + 1) (hv : val d < pw n) : val (d.take n) = val d := by
  have h := val_top1 hl
  rcases Nat.eq_zero_or_pos (d.getD n 0) with h0 | h0
  · rw [h0, Nat.mul_zero] at h; omega
  · have : pw n * 1 ≤ pw n * d.getD n 0 := Nat.mul_le_mul_left _ h0
    omega

/-- halving finds the word of the quotient -/
theorem half_step {M T lo hi mid : Nat} (h1 : M * lo ≤ T) (h2 : T < M * hi) (hm : mid = (lo + hi) / 2) (hlt : lo + 1 < hi) :
    lo < mid ∧ mid < hi ∧ (M * mid ≤ T → M * mid ≤ T ∧ T < M * hi) ∧ (T < M * mid → M * lo ≤ T ∧ T < M * mid) := ⟨by omega, by omega, fun h => ⟨h, h2⟩, fun h => ⟨h1, h⟩⟩
theorem half_end {M T lo : Nat} (h1 : M * lo ≤ T) (h2 : T < M * (lo + 1)) : lo = T / M ∧ T - M * lo = T % M := by
  rw [Nat.mul_add, Nat.mul_one] at h2
  have hM : 0 < M := by omega
  have e : T = M * lo + (T - M * lo) := by omega
  have hl : T - M * lo < M := by omega
  constructor
  · rw [e, Nat.mul_add_div hM, Nat.div_eq_of_lt hl]; rfl
  · have h3 : T % M = (M * lo + (T - M * lo)) % M := by rw [← e]
    rw [h3, Nat.mul_add_mod, Nat.mod_eq_of_lt hl]
/-- what the reference's long division begins with: the words above -/
theorem top_lt {N M k : Nat} (hM : 0 < M) (hk : (dig N).length - k < (dig M).length) : val ((dig N).drop k) < M := by
  have h1 := val_lt ((dig_wd N).drop k)
  rw [List.length_drop] at h1
  have h2 := dig_ge hM
  have h3 := pw_mono (show (dig N).length - k ≤ (dig M).length - 1 by omega)
  omega
end Go.Proofs.YtmhfdmidaheoeaaDoor.Kn
/- Floored quotients of integers in terms of their magnitudes: plain mathematics, of no program. -/
namespace Go.Proofs.YtmhfdmidaheoeaaDoor.Kn

theorem fd_of {x y q r : Int} (h : x = y * q + r) (hr : (0 < y ∧ 0 ≤ r ∧ r < y) ∨ (y < 0 ∧ y < r ∧ r ≤ 0)) : x.fdiv y = q ∧ x.fmod y = r := by
  rcases hr with ⟨hy, h1, h2⟩ | ⟨hy, h1, h2⟩
  · exact (Int.fdiv_fmod_unique hy).2 ⟨by omega, h1, h2⟩
  · exact (Int.fdiv_fmod_unique' hy).2 ⟨by omega, h1, h2⟩
theorem nat_dm (X Y : Nat) : (X : Int) = (Y : Int) * ((X / Y : Nat) : Int) + ((X % Y : Nat) : Int) := by
  rw [← Int.natCast_mul, ← Int.natCast_add, Nat.div_add_mod]
theorem iv_d (p : Bool) (n : Nat) : iv p (dig n) = if p then -(n : Int) else (n : Int) := by unfold iv; rw [val_dig]
/-- equal signs -/
theorem fd_same (p : Bool) {xs ys : List Nat} (hy : 0 < val ys) : (iv p xs).fdiv (iv p ys) = iv false (dig (val xs / val ys)) ∧ (iv p xs).fmod (iv p ys) = iv p (dig (val xs % val ys)) := by
  have h := nat_dm (val xs) (val ys)
  have hl := Nat.mod_lt (val xs) hy
  rw [iv_d, iv_d]
  unfold iv
  obtain ⟨Q, hQ⟩ : ∃ Q, Q = val xs / val ys := ⟨_, rfl⟩
  obtain ⟨R, hR⟩ : ∃ R, R = val xs % val ys := ⟨_, rfl⟩
  rw [← hQ, ← hR] at h ⊢
  rw [← hR] at hl
  cases p
  · exact fd_of (by simpa using h) (Or.inl ⟨by simpa using hy, by simp, by simpa using hl⟩)
  · simp only [if_true, Bool.false_eq_true, if_false]
    exact fd_of (by rw [Int.neg_mul]; omega) (Or.inr ⟨by omega, by omega, by omega⟩)
/-- other signs, nothing left -/
theorem fd_diff0 {p q : Bool} (hpq : p ≠ q) {xs ys : List Nat} (hy : 0 < val ys) (h0 : val xs % val ys = 0) : (iv p xs).fdiv (iv q ys) = iv true (dig (val xs / val ys)) ∧ (iv p xs).fmod (iv q ys) = iv q (dig 0) := by
  have h := nat_dm (val xs) (val ys)
  rw [h0] at h
  rw [iv_d, iv_d]
  unfold iv
  obtain ⟨Q, hQ⟩ : ∃ Q, Q = val xs / val ys := ⟨_, rfl⟩
  rw [← hQ] at h ⊢
  cases p <;> cases q <;> first | exact absurd rfl hpq | skip
  · simp only [if_true, Bool.false_eq_true, if_false]
    exact fd_of (by rw [Int.neg_mul_neg]; omega) (Or.inr ⟨by omega, by omega, by omega⟩)
  · simp only [if_true, Bool.false_eq_true, if_false]
    exact fd_of (by rw [Int.mul_neg]; omega) (Or.inl ⟨by omega, by omega, by omega⟩)
/-- other signs, something left -/
theorem fd_diff1 {p q : Bool} (hpq : p ≠ q) {xs ys : List Nat} (hy : 0 < val ys) (h0 : 0 < val xs % val ys) : (iv p xs).fdiv (iv q ys) = iv true (dig (val xs / val ys + 1)) ∧ (iv p xs).fmod (iv q ys) = iv q (dig (val ys - val xs % val ys)) := by
  have h := nat_dm (val xs) (val ys)
  have hl := Nat.mod_lt (val xs) hy
  rw [iv_d, iv_d]
  unfold iv
  obtain ⟨Q, hQ⟩ : ∃ Q, Q = val xs / val ys := ⟨_, rfl⟩
  obtain ⟨R, hR⟩ : ∃ R, R = val xs % val ys := ⟨_, rfl⟩
  rw [← hQ, ← hR] at h ⊢
  rw [← hR] at hl h0
  have e : ((Q + 1 : Nat) : Int) = (Q : Int) + 1 := by omega
  have e2 : ((val ys - R : Nat) : Int) = (val ys : Int) - (R : Int) := by omega
  rw [e, e2]
  cases p <;> cases q <;> first | exact absurd rfl hpq | skip
  · simp only [if_true, Bool.false_eq_true, if_false]
    exact fd_of (by rw [Int.neg_mul_neg, Int.mul_add]; omega) (Or.inr ⟨by omega, by omega, by omega⟩)
  · simp only [if_true, Bool.false_eq_true, if_false]
    exact fd_of (by rw [Int.mul_neg, Int.mul_add]; omega) (Or.inl ⟨by omega, by omega, by omega⟩)
end Go.Proofs.YtmhfdmidaheoeaaDoor.Kn
/- Lehmer's steps of Euclid's algorithm: plain mathematics, of no program. -/
namespace Go.Proofs.YtmhfdmidaheoeaaDoor.Kn

/-- the steps with the leading bits x0, y0 alone -/
structure Sm (x0 y0 c a0 b0 a1 b1 x y : Nat) : Prop where
  even : c % 2 = 0 → a0 * x0 = x + b0 * y0 ∧ b1 * y0 = y + a1 * x0
  odd : c % 2 = 1 → b0 * y0 = x + a0 * x0 ∧ a1 * x0 = y + b1 * y0
  det : x0 = b1 * x + b0 * y
  yx : y ≤ x
  ab1 : a1 ≤ b1
  cb : c ≤ b1
  b1p : 1 ≤ b1
  st : (c = 0 ∧ a0 = 1 ∧ b0 = 0 ∧ a1 = 0 ∧ b1 = 1) ∨ (0 < c ∧ a0 ≤ b0 ∧ b1 ≤ y ∧ 1 ≤ b0 ∧ b0 ≤ b1)

/-- the same steps with the numbers themselves -/
structure Tr (A B c a0 b0 a1 b1 X Y : Nat) : Prop where
  even : c % 2 = 0 → a0 * A = X + b0 * B ∧ b1 * B = Y + a1 * A
  odd : c % 2 = 1 → b0 * B = X + a0 * A ∧ a1 * A = Y + b1 * B
  yx : Y ≤ X
  yb : Y ≤ B
  gcd : Nat.gcd X Y = Nat.gcd A B
  st : (c = 0 ∧ X = A ∧ Y = B) ∨ (0 < c ∧ X ≤ B ∧ X + Y ≤ A)

theorem Sm.start {x0 y0 : Nat} (h : y0 ≤ x0) : Sm x0 y0 0 1 0 0 1 x0 y0 :=
  ⟨fun _ => by omega, fun h => by omega, by omega, h, by omega, by omega, by omega, .inl ⟨rfl, rfl, rfl, rfl, rfl⟩⟩
theorem Tr.start {A B : Nat} (h : B ≤ A) : Tr A B 0 1 0 0 1 A B :=
  ⟨fun _ => by omega, fun h => by omega, h, Nat.le_refl _, rfl, .inl ⟨rfl, rfl, rfl⟩⟩

/-- the factors are words -/
theorem Sm.words {x0 y0 c a0 b0 a1 b1 x y : Nat} (h : Sm x0 y0 c a0 b0 a1 b1 x y) (hx : x0 < 18446744073709551616) : a0 < 4294967296 ∧ b0 < 4294967296 ∧ a1 < 4294967296 ∧ b1 < 4294967296 ∧ c < 4294967296 := by
  have h1 : b1 < 4294967296 := by
    rcases h.st with h2 | h2
    · omega
    · rw [← Nat.not_le]
      intro hb
      have h3 : 4294967296 * 4294967296 ≤ b1 * x := Nat.mul_le_mul hb (by have := h.yx; omega)
      have := h.det
      omega
  have := h.ab1
  have := h.cb
  rcases h.st with h2 | h2 <;> omega
/-- the next factors fit into 64 bits -/
theorem Sm.fits {x0 y0 c a0 b0 a1 b1 x y q y' : Nat} (h : Sm x0 y0 c a0 b0 a1 b1 x y) (hy : 0 < y) (hq : x = q * y + y') (hl : y' < y) :
    1 ≤ q ∧ a0 + q * a1 ≤ b0 + q * b1 ∧ b0 + q * b1 ≤ x0 ∧ x0 = (b0 + q * b1) * y + b1 * y' ∧ q * a1 ≤ q * b1 := by
  have hq1 : 1 ≤ q := by
    rcases Nat.eq_zero_or_pos q with h0 | h0
    · rw [h0, Nat.zero_mul] at hq; have := h.yx; omega
    · exact h0
  have e : x0 = (b0 + q * b1) * y + b1 * y' := by
    rw [h.det, hq, Nat.mul_add, Nat.add_mul, Nat.mul_left_comm b1 q y, ← Nat.mul_assoc q b1 y]; omega
  have h1 : q * a1 ≤ q * b1 := Nat.mul_le_mul_left _ h.ab1
  refine ⟨hq1, ?_, ?_, e, h1⟩
  · rcases h.st with h2 | h2
    · obtain ⟨_, e1, e2, e3, e4⟩ := h2
      rw [e1, e2, e3, e4]; omega
    · omega
  · have h2 : (b0 + q * b1) * 1 ≤ (b0 + q * b1) * y := Nat.mul_le_mul_left _ hy
    omega

/-- what the leading bits say of the numbers -/
theorem lead {A B E x0 y0 m n d : Nat} (hA : x0 * E ≤ A) (hB : B ≤ (y0 + 1) * E) (h : m * x0 = d + n * y0) (hd : n ≤ d) : n * B ≤ m * A := by
  have h1 : n * B ≤ n * ((y0 + 1) * E) := Nat.mul_le_mul_left _ hB
  have h2 : n * ((y0 + 1) * E) ≤ m * x0 * E := by
    rw [← Nat.mul_assoc, h]
    refine Nat.mul_le_mul_right _ ?_
    rw [Nat.mul_add, Nat.mul_one]; omega
  have h3 : m * x0 * E ≤ m * A := by rw [Nat.mul_assoc]; exact Nat.mul_le_mul_left _ hA
  omega

theorem gcd_next {X Y Z q : Nat} (h : X = q * Y + Z) : Nat.gcd Y Z = Nat.gcd X Y := by
  rw [h, Nat.gcd_comm (q * Y + Z) Y, Nat.add_comm (q * Y) Z, Nat.gcd_add_mul_right_right]

/-- a step that Collins's condition allows -/
theorem step_both {A B E x0 y0 c a0 b0 a1 b1 x y X Y q y' : Nat} (hA : x0 * E ≤ A) (hA' : A ≤ (x0 + 1) * E) (hB : y0 * E ≤ B) (hB' : B ≤ (y0 + 1) * E)
    (h : Sm x0 y0 c a0 b0 a1 b1 x y) (H : Tr A B c a0 b0 a1 b1 X Y) (hy : 0 < y) (hq : x = q * y + y') (hl : y' < y)
    (hc1 : b0 + q * b1 ≤ y') (hc2 : b1 + (b0 + q * b1) ≤ y - y') :
    Sm x0 y0 (c + 1) a1 b1 (a0 + q * a1) (b0 + q * b1) y y' ∧ ∃ Z, Tr A B (c + 1) a1 b1 (a0 + q * a1) (b0 + q * b1) Y Z := by
  obtain ⟨hq1, hab, hb, hdet, hqa⟩ := h.fits hy hq hl
  have hb1q : b1 ≤ q * b1 := Nat.le_mul_of_pos_left _ hq1
  have hcb : c + 1 ≤ b0 + q * b1 := by
    have := h.cb
    rcases h.st with h2 | h2
    · omega
    · omega
  have hst : 0 < c + 1 ∧ a1 ≤ b1 ∧ b0 + q * b1 ≤ y' ∧ 1 ≤ b1 ∧ b1 ≤ b0 + q * b1 := ⟨by omega, h.ab1, hc1, h.b1p, by omega⟩
  have hqy : q * (b1 * y0) = q * b1 * y0 := (Nat.mul_assoc _ _ _).symm
  have hqx : q * (a1 * x0) = q * a1 * x0 := (Nat.mul_assoc _ _ _).symm
  have hQB : q * (b1 * B) = q * b1 * B := (Nat.mul_assoc _ _ _).symm
  have hQA : q * (a1 * A) = q * a1 * A := (Nat.mul_assoc _ _ _).symm
  rcases Nat.mod_two_eq_zero_or_one c with hm | hm
  · obtain ⟨s1, s2⟩ := h.even hm
    obtain ⟨t1, t2⟩ := H.even hm
    have s3 : q * (b1 * y0) = q * y + q * (a1 * x0) := by rw [s2, Nat.mul_add]
    have t3 : q * (b1 * B) = q * Y + q * (a1 * A) := by rw [t2, Nat.mul_add]
    have o1 : (a0 + q * a1) * x0 = y' + (b0 + q * b1) * y0 := by rw [Nat.add_mul, Nat.add_mul, ← hqx, ← hqy, s1, s3]; omega
    have k1 := lead hA hB' o1 hc1
    have o2 : (b1 + (b0 + q * b1)) * y0 = (y - y') + (a1 + (a0 + q * a1)) * x0 := by rw [Nat.add_mul b1, Nat.add_mul a1, o1, s2]; omega
    have k2 := lead hB hA' o2 (by have := h.ab1; omega)
    rw [Nat.add_mul, Nat.add_mul, ← hQA, ← hQB, t1, t3] at k1
    have hZ : X = q * Y + (X - q * Y) := by omega
    have p1 : (a0 + q * a1) * A = (X - q * Y) + (b0 + q * b1) * B := by rw [Nat.add_mul, Nat.add_mul, ← hQA, ← hQB, t1, t3]; omega
    rw [Nat.add_mul b1, Nat.add_mul a1, p1, t2] at k2
    have hZY : X - q * Y ≤ Y := by omega
    have hqY : Y ≤ q * Y := Nat.le_mul_of_pos_left _ hq1
    refine ⟨⟨fun e => by omega, fun _ => ⟨s2, o1⟩, hdet, by omega, hab, hcb, by omega, .inr hst⟩, X - q * Y, fun e => by omega, fun _ => ⟨t2, p1⟩, hZY, Nat.le_trans hZY H.yb, (gcd_next hZ).trans H.gcd, .inr ⟨by omega, H.yb, ?_⟩⟩
    rcases H.st with h3 | h3
    · obtain ⟨_, e1, e2⟩ := h3; omega
    · omega
  · obtain ⟨s1, s2⟩ := h.odd hm
    obtain ⟨t1, t2⟩ := H.odd hm
    have s3 : q * (a1 * x0) = q * y + q * (b1 * y0) := by rw [s2, Nat.mul_add]
    have t3 : q * (a1 * A) = q * Y + q * (b1 * B) := by rw [t2, Nat.mul_add]
    have o1 : (b0 + q * b1) * y0 = y' + (a0 + q * a1) * x0 := by rw [Nat.add_mul, Nat.add_mul, ← hqx, ← hqy, s1, s3]; omega
    have k1 := lead hB hA' o1 (by omega)
    have o2 : (a1 + (a0 + q * a1)) * x0 = (y - y') + (b1 + (b0 + q * b1)) * y0 := by rw [Nat.add_mul b1, Nat.add_mul a1, o1, s2]; omega
    have k2 := lead hA hB' o2 hc2
    rw [Nat.add_mul, Nat.add_mul, ← hQA, ← hQB, t1, t3] at k1
    have hZ : X = q * Y + (X - q * Y) := by omega
    have p1 : (b0 + q * b1) * B = (X - q * Y) + (a0 + q * a1) * A := by rw [Nat.add_mul, Nat.add_mul, ← hQA, ← hQB, t1, t3]; omega
    rw [Nat.add_mul b1, Nat.add_mul a1, p1, t2] at k2
    have hZY : X - q * Y ≤ Y := by omega
    have hqY : Y ≤ q * Y := Nat.le_mul_of_pos_left _ hq1
    refine ⟨⟨fun _ => ⟨s2, o1⟩, fun e => by omega, hdet, by omega, hab, hcb, by omega, .inr hst⟩, X - q * Y, fun _ => ⟨t2, p1⟩, fun e => by omega, hZY, Nat.le_trans hZY H.yb, (gcd_next hZ).trans H.gcd, .inr ⟨by omega, H.yb, ?_⟩⟩
    rcases H.st with h3 | h3
    · obtain ⟨_, e1, e2⟩ := h3; omega
    · omega

/-- what shrink makes of two numbers -/
def Shr (A B X Y : Nat) : Prop := Y ≤ X ∧ Nat.gcd X Y = Nat.gcd A B ∧ X + Y < A + B ∧ X ≤ A
theorem Tr.shr {A B c a0 b0 a1 b1 X Y : Nat} (h : Tr A B c a0 b0 a1 b1 X Y) (hB : 0 < B) (hBA : B ≤ A) (hc : 0 < c) : Shr A B X Y := by
  refine ⟨h.yx, h.gcd, ?_, ?_⟩
  · rcases h.st with h3 | h3 <;> omega
  · rcases h.st with h3 | h3 <;> omega
theorem shr_mod {A B : Nat} (hB : 0 < B) (hBA : B ≤ A) : Shr A B B (A % B) := by
  have h := Nat.mod_lt A hB
  refine ⟨by omega, ?_, by omega, hBA⟩
  rw [Nat.gcd_comm A B, Nat.gcd_rec B A, Nat.gcd_comm]

/-- the 64 leading bits of three words -/
theorem lead_bits {w1 w2 w3 s : Nat} (hs : s ≤ 31) (h1 : w1 < 2 ^ (32 - s)) (h2 : w2 < 4294967296) (h3 : w3 < 4294967296) :
    ((w1 * 2 ^ (32 + s)) ||| (w2 * 2 ^ s)) ||| (w3 / 2 ^ (32 - s)) = (w3 + 4294967296 * (w2 + 4294967296 * w1)) / 2 ^ (32 - s) ∧ (w3 + 4294967296 * (w2 + 4294967296 * w1)) / 2 ^ (32 - s) < 18446744073709551616 := by
  have e0 : (4294967296 : Nat) = 2 ^ (32 - s) * 2 ^ s := by rw [← Nat.pow_add, show 32 - s + s = 32 by omega]
  have hw3 : w3 / 2 ^ (32 - s) < 2 ^ s := Nat.div_lt_of_lt_mul (by rw [← e0]; exact h3)
  have hp : 0 < 2 ^ (32 - s) := Nat.pow_pos (by decide)
  have e1 : (w1 * 2 ^ (32 + s)) ||| (w2 * 2 ^ s) = w1 * 2 ^ (32 + s) + w2 * 2 ^ s := by
    have h := Nat.shiftLeft_add_eq_or_of_lt (i := 32 + s) (b := w2 * 2 ^ s) (by
      rw [Nat.pow_add]; exact Nat.mul_lt_mul_of_pos_right h2 (Nat.pow_pos (by decide))) w1
    rw [Nat.shiftLeft_eq] at h
    exact h.symm
  have e2 : w1 * 2 ^ (32 + s) + w2 * 2 ^ s = (w1 * 4294967296 + w2) * 2 ^ s := by rw [Nat.add_mul, Nat.pow_add, Nat.mul_assoc]
  have e3 : (w1 * 2 ^ (32 + s) ||| (w2 * 2 ^ s)) ||| (w3 / 2 ^ (32 - s)) = (w1 * 4294967296 + w2) * 2 ^ s + w3 / 2 ^ (32 - s) := by
    rw [e1, e2]
    have h := Nat.shiftLeft_add_eq_or_of_lt (i := s) hw3 (w1 * 4294967296 + w2)
    rw [Nat.shiftLeft_eq] at h
    exact h.symm
  have e4 : (w3 + 4294967296 * (w2 + 4294967296 * w1)) / 2 ^ (32 - s) = (w1 * 4294967296 + w2) * 2 ^ s + w3 / 2 ^ (32 - s) := by
    have : w3 + 4294967296 * (w2 + 4294967296 * w1) = w3 + 2 ^ (32 - s) * ((w1 * 4294967296 + w2) * 2 ^ s) := by
      rw [Nat.mul_left_comm, ← e0, Nat.mul_comm _ 4294967296, Nat.mul_comm w1, Nat.add_comm w2]
    rw [this, Nat.add_mul_div_left _ _ hp, Nat.add_comm]
  refine ⟨e3.trans e4.symm, ?_⟩
  refine Nat.div_lt_of_lt_mul ?_
  have h5 : w3 + 4294967296 * (w2 + 4294967296 * w1) < 4294967296 * 4294967296 * 2 ^ (32 - s) := by
    have : 4294967296 * 4294967296 * (w1 + 1) ≤ 4294967296 * 4294967296 * 2 ^ (32 - s) := Nat.mul_le_mul_left _ h1
    omega
  rw [Nat.mul_comm (2 ^ (32 - s))]
  exact h5

/-- a number without its last bits -/
theorem div_between (N E : Nat) (hE : 0 < E) : N / E * E ≤ N ∧ N ≤ (N / E + 1) * E := by
  have h := Nat.div_add_mod N E
  have h2 := Nat.mod_lt N hE
  rw [Nat.mul_comm] at h
  rw [Nat.add_mul]
  omega
end Go.Proofs.YtmhfdmidaheoeaaDoor.Kn
