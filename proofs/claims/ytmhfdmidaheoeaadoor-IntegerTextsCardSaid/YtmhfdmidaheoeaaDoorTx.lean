/- Plain laws of the texts of sets: decimal numbers, the text of a set, what the reference's Parse accepts. -/
import Derived.Lib.ItoaMem
namespace Go.Proofs.YtmhfdmidaheoeaaDoor.Kt
set_option linter.unusedVariables false

def digC (c : UInt8) : Bool := decide (48 ≤ c.toNat) && decide (c.toNat ≤ 57)
/-- the value of digits -/
def valN (l : List UInt8) : Nat := l.foldl (fun n c => n * 10 + (c.toNat - 48)) 0
theorem val_snoc (l : List UInt8) (c : UInt8) : valN (l ++ [c]) = valN l * 10 + (c.toNat - 48) := by unfold valN; rw [List.foldl_append]; rfl
/-- are digits written without a needless zero? -/
def canon (w : List UInt8) : Prop := w ≠ [] ∧ w.all digC = true ∧ (w.length = 1 ∨ w.head? ≠ some 48)
theorem dec_small {u : Nat} (h : u < 10) : Lib.decDigits u = [UInt8.ofNat (48 + u)] := Lib.decDigits_one h
theorem dec_big {u : Nat} (h : ¬ u < 10) : Lib.decDigits u = Lib.decDigits (u / 10) ++ [UInt8.ofNat (48 + u % 10)] := by rw [Lib.decDigits, dif_neg h]
theorem dig_of {d : Nat} (h : d < 10) : (UInt8.ofNat (48 + d)).toNat = 48 + d := by
  rw [UInt8.toNat_ofNat']; omega
theorem dec_ne (u : Nat) : Lib.decDigits u ≠ [] := by
  by_cases h : u < 10
  · rw [dec_small h]; simp
  · rw [dec_big h]; simp
theorem dec_val : ∀ u, valN (Lib.decDigits u) = u := by
  intro u
  induction u using Nat.strongRecOn with
  | ind u ih =>
    by_cases h : u < 10
    · rw [dec_small h]
      show 0 * 10 + ((UInt8.ofNat (48 + u)).toNat - 48) = u
      rw [dig_of h]; omega
    · rw [dec_big h, val_snoc, ih (u / 10) (by omega), dig_of (by omega)]; omega
theorem dec_dig : ∀ u, (Lib.decDigits u).all digC = true := by
  intro u
  induction u using Nat.strongRecOn with
  | ind u ih =>
    have hd : ∀ d, d < 10 → digC (UInt8.ofNat (48 + d)) = true := fun d h => by
      unfold digC
      rw [dig_of h]; simp; omega
    by_cases h : u < 10
    · rw [dec_small h, List.all_cons, hd u h]; rfl
    · rw [dec_big h, List.all_append, ih (u / 10) (by omega), List.all_cons, hd _ (by omega)]; rfl
theorem dec_head : ∀ u, 0 < u → (Lib.decDigits u).head? ≠ some 48 := by
  intro u
  induction u using Nat.strongRecOn with
  | ind u ih =>
    intro h0
    by_cases h : u < 10
    · rw [dec_small h]
      intro e
      injection e with e
      have := congrArg UInt8.toNat e
      rw [dig_of h] at this
      have h48 : (48 : UInt8).toNat = 48 := rfl
      omega
    · rw [dec_big h]
      have hn := dec_ne (u / 10)
      have := ih (u / 10) (by omega) (by omega)
      cases hq : Lib.decDigits (u / 10) with
      | nil => exact absurd hq hn
      | cons a r => rw [hq] at this; exact this
theorem dec_canon (u : Nat) : canon (Lib.decDigits u) := by
  refine ⟨dec_ne u, dec_dig u, ?_⟩
  by_cases h : u = 0
  · subst h; exact .inl (by rw [dec_small (by decide)]; rfl)
  · exact .inr (dec_head u (by omega))
theorem canon_pos {w : List UInt8} (h : canon w) (h2 : 1 < w.length) : 0 < valN w := by
  obtain ⟨h0, h1, h3⟩ := h
  cases w with
  | nil => exact absurd rfl h0
  | cons c r =>
    have hc : c ≠ 48 := by
      rcases h3 with h3 | h3
      · omega
      · intro e; exact h3 (by rw [e]; rfl)
    rw [List.all_cons, Bool.and_eq_true] at h1
    have hd : 48 < c.toNat := by
      have := h1.1
      unfold digC at this
      simp at this
      have hne : c.toNat ≠ 48 := fun e => hc (UInt8.toNat_inj.1 e)
      omega
    have key : ∀ (r : List UInt8) (a : Nat), 0 < a → 0 < r.foldl (fun n c => n * 10 + (c.toNat - 48)) a := by
      intro r
      induction r with
      | nil => intro a ha; exact ha
      | cons x r ih => intro a ha; exact ih _ (show 0 < a * 10 + (x.toNat - 48) by omega)
    exact key r _ (show 0 < 0 * 10 + (c.toNat - 48) by omega)
/-- digits without a needless zero are the decimal form of their value -/
theorem canon_dec : ∀ (n : Nat) (w : List UInt8), w.length = n → canon w → Lib.decDigits (valN w) = w := by
  intro n
  induction n with
  | zero => intro w h ⟨h0, _⟩; exact absurd (List.eq_nil_of_length_eq_zero h) h0
  | succ n ih =>
    intro w hn hw
    obtain ⟨h0, h1, h3⟩ := hw
    obtain ⟨v, c, rfl⟩ : ∃ v c, w = v ++ [c] := ⟨w.dropLast, w.getLast h0, (List.dropLast_concat_getLast h0).symm⟩
    rw [List.all_append, Bool.and_eq_true, List.all_cons, Bool.and_eq_true] at h1
    have hc := h1.2.1
    unfold digC at hc
    simp at hc
    have hcc : UInt8.ofNat (48 + (c.toNat - 48)) = c := by
      apply UInt8.toNat_inj.1
      rw [dig_of (by omega)]; omega
    rw [val_snoc]
    cases hv : v with
    | nil =>
      show Lib.decDigits (0 * 10 + (c.toNat - 48)) = [c]
      rw [Nat.zero_mul, Nat.zero_add, dec_small (by omega), hcc]
    | cons a r =>
      rw [← hv]
      have hvl : v.length = n := by rw [List.length_append] at hn; simpa using hn
      have hh : v.head? ≠ some 48 := by
        rcases h3 with h3 | h3
        · rw [List.length_append, hv] at h3; simp at h3
        · rw [hv] at h3 ⊢; exact h3
      have hcv : canon v := ⟨by rw [hv]; simp, h1.1, .inr hh⟩
      have hp : 0 < valN v := by
        by_cases h1' : 1 < v.length
        · exact canon_pos hcv h1'
        · have e := ih v hvl hcv
          rw [hv] at h1' hh
          simp at h1'
          subst h1'
          rw [hv]
          have ha := h1.1
          rw [hv, List.all_cons, Bool.and_eq_true] at ha
          have ha2 := ha.1
          unfold digC at ha2
          simp at ha2
          have hne : a.toNat ≠ 48 := fun e => hh (by rw [UInt8.toNat_inj.1 (show a.toNat = (48 : UInt8).toNat from e)]; rfl)
          show 0 < 0 * 10 + (a.toNat - 48)
          omega
      rw [dec_big (by omega), show (valN v * 10 + (c.toNat - 48)) / 10 = valN v by omega, show (valN v * 10 + (c.toNat - 48)) % 10 = c.toNat - 48 by omega, ih v hvl hcv, hcc]
/-- a number at the beginning, as the reference reads it: value and length; mx: the greatest -/
def numR (mx : Nat) (l : List UInt8) : Option (Nat × Nat) :=
  if (l.takeWhile digC).isEmpty || (decide (1 < (l.takeWhile digC).length) && (l.takeWhile digC).head? == some 48) || decide (mx < valN (l.takeWhile digC)) then none
  else some (valN (l.takeWhile digC), (l.takeWhile digC).length)
theorem numR_some {mx : Nat} {l : List UInt8} {n k : Nat} (h : numR mx l = some (n, k)) : n ≤ mx ∧ l = Lib.decDigits n ++ l.drop k ∧ (∀ c r, l.drop k = c :: r → digC c = false) := by
  unfold numR at h
  split at h
  · cases h
  · rename_i hb
    injection h with h
    injection h with h1 h2
    subst h1 h2
    simp only [Bool.or_eq_true, Bool.and_eq_true, decide_eq_true_eq, List.isEmpty_iff, beq_iff_eq, not_or, not_and] at hb
    obtain ⟨⟨hb1, hb2⟩, hb3⟩ := hb
    have hall : (l.takeWhile digC).all digC = true := by
      generalize l = m
      induction m with
      | nil => rfl
      | cons a m ih =>
        rw [List.takeWhile_cons]
        split
        · rw [List.all_cons, ih, Bool.and_true]; assumption
        · rfl
    have hlen : 0 < (l.takeWhile digC).length := List.length_pos_iff.2 hb1
    have hcan : canon (l.takeWhile digC) := ⟨hb1, hall, by
      by_cases h1 : (l.takeWhile digC).length = 1
      · exact .inl h1
      · exact .inr (hb2 (by omega))⟩
    refine ⟨by omega, ?_, ?_⟩
    · rw [canon_dec _ _ rfl hcan]
      obtain ⟨t, ht⟩ := List.takeWhile_prefix digC (l := l)
      conv => lhs; rw [← ht]
      congr 1
      conv => rhs; arg 2; rw [← ht]
      rw [List.drop_left]
    · intro c r hq
      have key : ∀ m : List UInt8, ∀ c r, m.drop (m.takeWhile digC).length = c :: r → digC c = false := by
        intro m
        induction m with
        | nil => intro c r h; simp at h
        | cons a m ih =>
          intro c r h
          rw [List.takeWhile_cons] at h
          split at h
          · exact ih c r (by simpa using h)
          · rename_i hn
            simp at h
            rw [← h.1]; simpa using hn
      exact key l c r hq
theorem tw_dec (n : Nat) (r : List UInt8) (hr : ∀ c t, r = c :: t → digC c = false) : (Lib.decDigits n ++ r).takeWhile digC = Lib.decDigits n := by
  rw [List.takeWhile_append_of_pos (fun a ha => List.all_eq_true.1 (dec_dig n) a ha)]
  cases r with
  | nil => simp
  | cons c t => rw [List.takeWhile_cons, if_neg (by rw [hr c t rfl]; decide), List.append_nil]
theorem numR_dec {mx n : Nat} (h : n ≤ mx) (r : List UInt8) (hr : ∀ c t, r = c :: t → digC c = false) : numR mx (Lib.decDigits n ++ r) = some (n, (Lib.decDigits n).length) := by
  unfold numR
  rw [tw_dec n r hr, dec_val]
  rw [if_neg]
  simp only [Bool.or_eq_true, Bool.and_eq_true, decide_eq_true_eq, List.isEmpty_iff, beq_iff_eq, not_or, not_and]
  refine ⟨⟨dec_ne n, fun h1 => ?_⟩, by omega⟩
  rcases (dec_canon n).2.2 with e | e
  · omega
  · exact e
end Go.Proofs.YtmhfdmidaheoeaaDoor.Kt
