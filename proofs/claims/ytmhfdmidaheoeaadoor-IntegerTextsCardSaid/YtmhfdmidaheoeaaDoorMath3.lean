/- Rows of digits in any base; decimal texts by groups of nineteen: plain mathematics, of no program. -/
import Derived.Test.YtmhfdmidaheoeaaDoorMath2
import Derived.Lib.ItoaMem
import Derived.Lib.Repeat
namespace Go.Proofs.YtmhfdmidaheoeaaDoor.Kn
open Go

/-- the number of a row of digits in base b, the least significant first -/
def vb (b : Nat) : List Nat → Nat
  | [] => 0
  | x :: l => x + b * vb b l
theorem vb_append (b : Nat) (l m : List Nat) : vb b (l ++ m) = vb b l + b ^ l.length * vb b m := by
  induction l with
  | nil => simp [vb]
  | cons x l ih =>
    rw [List.cons_append]
    show x + b * vb b (l ++ m) = x + b * vb b l + b ^ (l.length + 1) * vb b m
    rw [ih, Nat.pow_succ, Nat.mul_add, Nat.mul_comm (b ^ l.length) b, Nat.mul_assoc]; omega
theorem vb_split (b : Nat) (l : List Nat) (k : Nat) (hk : k ≤ l.length) : vb b l = vb b (l.take k) + b ^ k * vb b (l.drop k) := by
  have h := vb_append b (l.take k) (l.drop k)
  rw [List.take_append_drop, List.length_take, Nat.min_eq_left hk] at h
  exact h
theorem vb_drop (b : Nat) (l : List Nat) {k : Nat} (hk : k < l.length) : vb b (l.drop k) = l.getD k 0 + b * vb b (l.drop (k + 1)) := by
  rw [drop_cons l hk]; rfl
theorem vb_set (b : Nat) (l : List Nat) {k : Nat} (x : Nat) (hk : k < l.length) : vb b (l.set k x) + b ^ k * l.getD k 0 = vb b l + b ^ k * x := by
  rw [vb_split b (l.set k x) k (by simpa using Nat.le_of_lt hk), vb_split b l k (Nat.le_of_lt hk), take_set_le, vb_drop b (l.set k x) (by simpa using hk), vb_drop b l hk, drop_set l x (by omega), getD_set _ _ _ _ hk, if_pos rfl, Nat.mul_add, Nat.mul_add]
  omega
theorem vb_zeros (b n : Nat) : vb b (List.replicate n 0) = 0 := by
  induction n with
  | zero => rfl
  | succ n ih => rw [List.replicate_succ]; show 0 + b * vb b _ = 0; rw [ih]; simp
theorem vb_take_succ (b : Nat) (l : List Nat) {k : Nat} (hk : k < l.length) : vb b (l.take (k + 1)) = vb b (l.take k) + b ^ k * l.getD k 0 := by
  rw [take_snoc l hk, vb_append, List.length_take, Nat.min_eq_left (by omega)]
  show _ = vb b (l.take k) + b ^ k * l.getD k 0
  simp [vb]
theorem vb_pos {b : Nat} (hb : 0 < b) (l : List Nat) {k : Nat} (hk : k < l.length) (h : l.getD k 0 ≠ 0) : 0 < vb b (l.take (k + 1)) := by
  rw [vb_take_succ b l hk]
  have := Nat.mul_pos (Nat.pow_pos hb (n := k)) (Nat.pos_of_ne_zero h)
  omega

/-- pairs of words -/
theorem pw_even (j : Nat) : pw (2 * j) = 18446744073709551616 ^ j := by unfold pw; rw [Nat.pow_mul]
theorem pair_even {ws ps : List Nat} {j x : Nat} (hj : j < ps.length) (hv : vb 18446744073709551616 ps = val (ws.take (2 * j))) (h0 : ps.getD j 0 = 0) (hx : x = ws.getD (2 * j) 0) :
    vb 18446744073709551616 (ps.set j x) = val (ws.take (2 * j + 1)) := by
  have h := vb_set 18446744073709551616 ps x hj
  rw [val_take_step, pw_even, ← hx]
  rw [h0] at h
  omega
theorem pair_odd {ws ps : List Nat} {j x o : Nat} (hj : j < ps.length) (hv : vb 18446744073709551616 ps = val (ws.take (2 * j + 1))) (h0 : ps.getD j 0 = o) (hx : x = ws.getD (2 * j + 1) 0) :
    vb 18446744073709551616 (ps.set j (o + x * 4294967296)) = val (ws.take (2 * j + 2)) := by
  have h := vb_set 18446744073709551616 ps (o + x * 4294967296) hj
  rw [show 2 * j + 2 = 2 * j + 1 + 1 by omega, val_take_step, pw_succ, pw_even, ← hx]
  rw [h0, Nat.mul_add] at h
  have e : 18446744073709551616 ^ j * (x * 4294967296) = 4294967296 * 18446744073709551616 ^ j * x := by
    rw [Nat.mul_comm x, ← Nat.mul_assoc, Nat.mul_comm (18446744073709551616 ^ j)]
  rw [e] at h
  omega

/-- one step of a long division of a row by g -/
theorem div_step {b g V p rest q r V' v : Nat} (hV : V = g * V' + rest) (hq : q = (rest * b + p) / g) (hr : r = (rest * b + p) % g) (hv : v = p + b * V) : v = g * (q + b * V') + r := by
  have h := Nat.div_add_mod (rest * b + p) g
  rw [← hq, ← hr] at h
  rw [hv, hV, Nat.mul_add, Nat.mul_add, Nat.mul_left_comm g b V', Nat.mul_comm b rest]
  omega

/-- nineteen digits -/
def pad (k g : Nat) : List UInt8 := List.replicate (k - (Lib.decDigits g).length) 48 ++ Lib.decDigits g
theorem dec_small {n : Nat} (h : n < 10) : Lib.decDigits n = [UInt8.ofNat (48 + n)] := Lib.decDigits_one h
theorem dec_big {n : Nat} (h : ¬ n < 10) : Lib.decDigits n = Lib.decDigits (n / 10) ++ [UInt8.ofNat (48 + n % 10)] := by
  rw [Lib.decDigits, dif_neg h]
theorem dec_len {k g : Nat} (h : g < 10 ^ (k + 1)) : (Lib.decDigits g).length ≤ k + 1 := by
  induction k generalizing g with
  | zero => rw [dec_small (by simpa using h)]; simp
  | succ k ih =>
    by_cases hs : g < 10
    · rw [dec_small hs]; simp
    · rw [dec_big hs, List.length_append]
      have := ih (g := g / 10) (by rw [Nat.pow_succ] at h; omega)
      simp; omega
theorem pad_succ {k g : Nat} (h : g < 10 ^ (k + 2)) : pad (k + 2) g = pad (k + 1) (g / 10) ++ [UInt8.ofNat (48 + g % 10)] := by
  unfold pad
  by_cases hs : g < 10
  · rw [dec_small hs, show g / 10 = 0 by omega, show g % 10 = g by omega, dec_small (show 0 < 10 by decide)]
    show List.replicate (k + 2 - 1) 48 ++ [UInt8.ofNat (48 + g)] = List.replicate (k + 1 - 1) 48 ++ [UInt8.ofNat (48 + 0)] ++ [UInt8.ofNat (48 + g)]
    rw [show k + 2 - 1 = k + 1 by omega, show k + 1 - 1 = k by omega, List.replicate_succ']
    rfl
  · rw [dec_big hs, List.length_append, List.append_assoc]
    have := dec_len (k := k) (g := g / 10) (by rw [Nat.pow_succ] at h; omega)
    rw [show k + 2 - ((Lib.decDigits (g / 10)).length + [UInt8.ofNat (48 + g % 10)].length) = k + 1 - (Lib.decDigits (g / 10)).length by simp]
theorem dec_split {k g n : Nat} (hn : 0 < n) (h : g < 10 ^ (k + 1)) : Lib.decDigits (g + 10 ^ (k + 1) * n) = Lib.decDigits n ++ pad (k + 1) g := by
  induction k generalizing g with
  | zero =>
    have hg : g < 10 := by simpa using h
    rw [dec_big (by omega), show (g + 10 ^ (0 + 1) * n) / 10 = n by omega, show (g + 10 ^ (0 + 1) * n) % 10 = g by omega]
    unfold pad
    rw [dec_small hg]; rfl
  | succ k ih =>
    have hp := Nat.pow_pos (show 0 < 10 by decide) (n := k + 1)
    have e : 10 ^ (k + 1 + 1) * n = 10 * (10 ^ (k + 1) * n) := by rw [Nat.pow_succ, Nat.mul_comm (10 ^ (k + 1)) 10, Nat.mul_assoc]
    have hm := Nat.mul_pos hp hn
    rw [e, dec_big (by omega), show (g + 10 * (10 ^ (k + 1) * n)) / 10 = g / 10 + 10 ^ (k + 1) * n by omega, show (g + 10 * (10 ^ (k + 1) * n)) % 10 = g % 10 by omega,
      ih (g := g / 10) (by rw [Nat.pow_succ] at h; omega), pad_succ h, List.append_assoc]

/-- the text of groups of nineteen digits -/
def gtext : List Nat → List UInt8
  | [] => []
  | [g] => Lib.decDigits g
  | g :: g' :: l => gtext (g' :: l) ++ pad 19 g
theorem gtext_eq (gs : List Nat) (h : ∀ x ∈ gs, x < 10000000000000000000) (hl : 0 < gs.length) (h0 : gs.getD (gs.length - 1) 0 ≠ 0) : gtext gs = Lib.decDigits (vb 10000000000000000000 gs) ∧ 0 < vb 10000000000000000000 gs := by
  induction gs with
  | nil => simp at hl
  | cons g l ih =>
    cases l with
    | nil =>
      have hg : g ≠ 0 := by simpa using h0
      have e : vb 10000000000000000000 [g] = g := by simp [vb]
      rw [e]
      exact ⟨rfl, by omega⟩
    | cons g' l =>
      obtain ⟨i1, i2⟩ := ih (fun x hx => h x (List.mem_cons_of_mem _ hx)) (by simp) (by
        rw [List.getD_eq_getElem?_getD] at h0 ⊢; simpa using h0)
      have hg := h g (List.mem_cons_self)
      have e : vb 10000000000000000000 (g :: g' :: l) = g + 10 ^ (18 + 1) * vb 10000000000000000000 (g' :: l) := rfl
      refine ⟨?_, by rw [e]; have := Nat.mul_pos (show 0 < 10 ^ (18 + 1) by decide) i2; omega⟩
      rw [e, dec_split i2 hg, ← i1]; rfl
theorem gtext_drop (gs : List Nat) {i : Nat} (hi : i + 1 < gs.length) : gtext (gs.drop i) = gtext (gs.drop (i + 1)) ++ pad 19 (gs.getD i 0) := by
  rw [drop_cons gs (by omega), drop_cons gs (show i + 1 < gs.length by omega)]; rfl
theorem gtext_last (gs : List Nat) (hl : 0 < gs.length) : gtext (gs.drop (gs.length - 1)) = Lib.decDigits (gs.getD (gs.length - 1) 0) := by
  rw [drop_cons gs (by omega), List.drop_of_length_le (by omega)]; rfl
end Go.Proofs.YtmhfdmidaheoeaaDoor.Kn
