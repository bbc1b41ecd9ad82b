/- Sums, differences, products and comparisons word by word: plain mathematics, of no program. -/
import Derived.Test.YtmhfdmidaheoeaaDoorMath
namespace Go.Proofs.YtmhfdmidaheoeaaDoor.Kn

theorem val_take_step (l : List Nat) (k : Nat) : val (l.take (k + 1)) = val (l.take k) + pw k * l.getD k 0 := by
  by_cases h : k < l.length
  · exact val_take_succ l h
  · rw [List.take_of_length_le (by omega), List.take_of_length_le (by omega), List.getD_eq_getElem?_getD, List.getElem?_eq_none (by omega)]; simp
theorem pw_divmod (k t : Nat) : pw k * (t % 4294967296) + pw (k + 1) * (t / 4294967296) = pw k * t := by
  rw [pw_succ, Nat.mul_comm 4294967296 (pw k), Nat.mul_assoc, ← Nat.mul_add, Nat.mod_add_div]

/-- one step of a sum -/
theorem add_step {a b vs : List Nat} {k cr t : Nat} (hk : k < vs.length) (hi : val (vs.take k) + pw k * cr = val (a.take k) + val (b.take k)) (ht : t = cr + a.getD k 0 + b.getD k 0) :
    val ((vs.set k (t % 4294967296)).take (k + 1)) + pw (k + 1) * (t / 4294967296) = val (a.take (k + 1)) + val (b.take (k + 1)) := by
  rw [val_set_take _ _ hk, val_take_step a, val_take_step b]
  have h := pw_divmod k t
  have e : pw k * t = pw k * cr + pw k * a.getD k 0 + pw k * b.getD k 0 := by rw [ht, Nat.mul_add, Nat.mul_add]
  omega

/-- one step of m * a - n * b -/
theorem comb_step {a b vs : List Nat} {k m n plus minus borrow p q r bo : Nat} (hk : k < vs.length)
    (hi : val (vs.take k) + n * val (b.take k) + pw k * plus = m * val (a.take k) + pw k * (minus + borrow))
    (hp : p = plus + m * a.getD k 0) (hq : q = minus + borrow + n * b.getD k 0) (hr : r + q % 4294967296 = p % 4294967296 + 4294967296 * bo) :
    val ((vs.set k r).take (k + 1)) + n * val (b.take (k + 1)) + pw (k + 1) * (p / 4294967296) = m * val (a.take (k + 1)) + pw (k + 1) * (q / 4294967296 + bo) := by
  rw [val_set_take _ _ hk, val_take_step a, val_take_step b]
  have h1 := pw_divmod k p
  have h2 := pw_divmod k q
  have e1 : pw k * p = pw k * plus + m * (pw k * a.getD k 0) := by rw [hp, Nat.mul_add, Nat.mul_left_comm]
  have e2 : pw k * q = pw k * (minus + borrow) + n * (pw k * b.getD k 0) := by rw [hq, Nat.mul_add, Nat.mul_left_comm n]
  have e3 : pw k * r + pw k * (q % 4294967296) = pw k * (p % 4294967296) + pw (k + 1) * bo := by
    rw [← Nat.mul_add, hr, Nat.mul_add, pw_succ, Nat.mul_comm 4294967296 (pw k), Nat.mul_assoc]
  rw [Nat.mul_add n, Nat.mul_add m, Nat.mul_add (pw (k + 1))]
  omega
theorem eq_of_mod {x y P s t : Nat} (hx : x < P) (hy : y < P) (h : x + P * s = y + P * t) : x = y := by
  have := congrArg (· % P) h
  simpa [Nat.add_mul_mod_self_left, Nat.mod_eq_of_lt hx, Nat.mod_eq_of_lt hy] using this
theorem comb_end {a b vs : List Nat} {m n plus minus borrow : Nat} (hv : Wd vs) (hl : vs.length = a.length)
    (hi : val (vs.take a.length) + n * val (b.take a.length) + pw a.length * plus = m * val (a.take a.length) + pw a.length * (minus + borrow))
    (hle : n * val b ≤ m * val a) (hlt : m * val a - n * val b < pw a.length) : val vs = m * val a - n * val b := by
  rw [List.take_of_length_le (by omega : vs.length ≤ a.length), List.take_of_length_le (Nat.le_refl a.length)] at hi
  have hb : val b = val (b.take a.length) + pw a.length * val (b.drop a.length) := by
    by_cases h : a.length ≤ b.length
    · exact val_split b _ h
    · rw [List.take_of_length_le (by omega), List.drop_eq_nil_of_le (by omega)]; simp [val]
  have h1 : n * val b = n * val (b.take a.length) + pw a.length * (n * val (b.drop a.length)) := by
    rw [← Nat.mul_left_comm n, ← Nat.mul_add, ← hb]
  refine eq_of_mod (s := plus) (t := n * val (b.drop a.length) + (minus + borrow)) (by rw [← hl]; exact val_lt hv) hlt ?_
  rw [Nat.mul_add]
  omega

/-- one step of a row of a product -/
theorem mul_step {b vs p0 : List Nat} {i j x carry t : Nat} (hk : i + j < vs.length)
    (hi : val vs + pw (i + j) * carry = val p0 + pw i * (x * val (b.take j))) (ht : t = carry + x * b.getD j 0 + vs.getD (i + j) 0) :
    val (vs.set (i + j) (t % 4294967296)) + pw (i + (j + 1)) * (t / 4294967296) = val p0 + pw i * (x * val (b.take (j + 1))) := by
  have h1 := val_set vs (t % 4294967296) hk
  have h2 := pw_divmod (i + j) t
  have e : pw (i + j) * t = pw (i + j) * carry + pw i * (x * (pw j * b.getD j 0)) + pw (i + j) * vs.getD (i + j) 0 := by
    rw [ht, Nat.mul_add, Nat.mul_add, pw_add, Nat.mul_left_comm x, Nat.mul_assoc (pw i) (pw j) (x * _)]
  rw [val_take_step b, Nat.mul_add x, Nat.mul_add (pw i), show i + (j + 1) = i + j + 1 by omega]
  omega
theorem mul_end {a b vs p0 : List Nat} {i x carry : Nat} (hx : x = a.getD i 0) (h0 : val p0 = val (a.take i) * val b) (hk : i + b.length < vs.length) (hz : vs.getD (i + b.length) 0 = 0)
    (hv : val vs + pw (i + b.length) * carry = val p0 + pw i * (x * val (b.take b.length))) : val (vs.set (i + b.length) carry) = val (a.take (i + 1)) * val b := by
  have h1 := val_set vs carry hk
  rw [hz, Nat.mul_zero] at h1
  rw [List.take_of_length_le (Nat.le_refl _)] at hv
  rw [val_take_step a, ← hx, Nat.add_mul, Nat.mul_assoc]
  omega

theorem cmp_self (n : Nat) : cmp n n = 0 := by unfold cmp; simp
theorem cmp_lt {n m : Nat} (h : n < m) : cmp n m = -1 := by unfold cmp; rw [if_pos h]
theorem cmp_gt {n m : Nat} (h : m < n) : cmp n m = 1 := by unfold cmp; rw [if_neg (by omega), if_neg (by omega)]
/-- canonical rows of two lengths -/
theorem cmp_len {n m : Nat} (h : (dig n).length ≠ (dig m).length) : cmp n m = cmp (dig n).length (dig m).length := by
  rcases Nat.lt_or_gt_of_ne h with h | h
  · rw [cmp_lt h, cmp_lt (dig_mono h)]
  · rw [cmp_gt h, cmp_gt (dig_mono h)]
/-- two rows of one length that agree above k -/
theorem cmp_at {a b : List Nat} (ha : Wd a) (hb : Wd b) (hl : a.length = b.length) {k : Nat} (hk : k < a.length) (hd : a.drop (k + 1) = b.drop (k + 1)) (hne : a.getD k 0 ≠ b.getD k 0) : cmp (val a) (val b) = cmp (a.getD k 0) (b.getD k 0) := by
  rcases Nat.lt_or_gt_of_ne hne with h | h
  · rw [cmp_lt h, cmp_lt (val_lt_of ha hl hk hd h)]
  · rw [cmp_gt h, cmp_gt (val_lt_of hb hl.symm (by omega) hd.symm h)]
theorem drop_ext {a b : List Nat} (hl : a.length = b.length) {k : Nat} (hk : k < a.length) (hd : a.drop (k + 1) = b.drop (k + 1)) (he : a.getD k 0 = b.getD k 0) : a.drop k = b.drop k := by
  rw [drop_cons a hk, drop_cons b (by omega), hd, he]

/-- the number of bits -/
def bl (n : Nat) : Nat := if n = 0 then 0 else n.log2 + 1
end Go.Proofs.YtmhfdmidaheoeaaDoor.Kn
