/- Plain laws of lexing: the tokens' texts, joined. -/
import Derived.Test.YtcckocaaoklibaaDoorLex4
namespace Go.Proofs.YtcckocaaoklibaaDoor.Kx
set_option linter.unusedVariables false

/-- a space and a text, for each of the tokens -/
def jtl : List Tk → List UInt8
  | [] => []
  | t :: ts => 32 :: (t.text ++ jtl ts)
/-- the tokens' texts with a space between them -/
def jn : List Tk → List UInt8
  | [] => []
  | t :: ts => t.text ++ jtl ts
theorem jtl_jn (ts : List Tk) : jtl ts = [] ∧ ts = [] ∨ jtl ts = 32 :: jn ts := by
  cases ts with
  | nil => exact .inl ⟨rfl, rfl⟩
  | cons t ts => exact .inr rfl
theorem lex_jn (M N : Nat) : ∀ l, hdOk l → l.length ≤ N → (lexR N l).2 = none → hdOk (jn (lexR N l).1) ∧ (lexR M (jn (lexR N l).1)).2 = none ∧ (lexR M (jn (lexR N l).1)).1.map kt = (lexR N l).1.map kt := by
  refine lexR_ind (N := N) ?_ ?_ ?_
  · intro _ _; exact ⟨trivial, rfl, rfl⟩
  · intro l h1 _ h2 _ h
    rw [lexR_bad h1 h2] at h; cases h
  · intro l h1 hd h2 ih hN h
    have hp := tk_pos h2
    have h3 := skip_len false (l.drop (tk l).2.1)
    rw [List.length_drop] at h3
    rw [lexR_ok h2] at h ⊢
    obtain ⟨i0, i1, i2⟩ := ih (by omega) h
    have htl : (l.take (tk l).2.1).length = (tk l).2.1 := by rw [List.length_take]; omega
    generalize (lexR N (skipL false (l.drop (tk l).2.1))).1 = ts at *
    show hdOk (l.take (tk l).2.1 ++ jtl ts) ∧ (lexR M (l.take (tk l).2.1 ++ jtl ts)).2 = none ∧ (lexR M (l.take (tk l).2.1 ++ jtl ts)).1.map kt = kt ⟨(tk l).1, l.take (tk l).2.1, N - l.length⟩ :: ts.map kt
    have hf : fol l (jtl ts) := fun x y hq => by
      left
      rcases jtl_jn ts with ⟨e, _⟩ | e
      · rw [e] at hq; cases hq
      · rw [e] at hq; injection hq with hq _; rw [← hq]; decide
    have htk := tk_fol h2 hf
    have hsk : skipL false (jtl ts) = jn ts := by
      rcases jtl_jn ts with ⟨e, e2⟩ | e
      · rw [e, e2]; rfl
      · rw [e]
        show skipL false (jn ts) = jn ts
        exact skip_id i0
    refine ⟨?_, ?_⟩
    · cases l with
      | nil => exact absurd rfl h1
      | cons c r =>
        obtain ⟨m, hm⟩ : ∃ m, (tk (c :: r)).2.1 = m + 1 := ⟨(tk (c :: r)).2.1 - 1, by omega⟩
        rw [hm]
        exact hd
    · rw [lexR_ok (N := M) (by rw [htk]; exact h2), htk]
      have e2 : (l.take (tk l).2.1 ++ jtl ts).drop (tk l).2.1 = jtl ts := by
        rw [List.drop_append_of_le_length (by omega), List.drop_of_length_le (by omega), List.nil_append]
      have e3 : (l.take (tk l).2.1 ++ jtl ts).take (tk l).2.1 = l.take (tk l).2.1 := by
        rw [List.take_append_of_le_length (by omega), List.take_of_length_le (by omega)]
      rw [e2, e3, hsk]
      refine ⟨i1, ?_⟩
      show kt _ :: List.map kt _ = kt _ :: List.map kt _
      rw [i2]; rfl
theorem lexA_jn {S : List UInt8} (h : (lexA S).2 = none) : (lexA (jn (lexA S).1)).2 = none ∧ (lexA (jn (lexA S).1)).1.map kt = (lexA S).1.map kt := by
  obtain ⟨h0, h1, h2⟩ := lex_jn (jn (lexA S).1).length S.length _ (skip_hd false S) (skip_len false S) h
  have e : lexA (jn (lexA S).1) = lexR (jn (lexA S).1).length (jn (lexA S).1) := by
    have h0' : hdOk (jn (lexA S).1) := h0
    generalize jn (lexA S).1 = q at h0'
    unfold lexA
    rw [skip_id h0']
  rw [e]
  exact ⟨h1, h2⟩
theorem jtl_len (S : List UInt8) : ∀ ts E, Cov S E ts → E ≤ S.length ∧ (jtl ts).length ≤ 2 * (S.length - E)
  | [], E, h => ⟨h.1, Nat.zero_le _⟩
  | t :: ts, E, ⟨h1, h2, h3, h4, h5, h6⟩ => by
    have h7 := jtl_len S ts _ h6
    have h8 : 0 < t.text.length := List.length_pos_iff.2 h2
    refine ⟨by omega, ?_⟩
    show (32 :: (t.text ++ jtl ts)).length ≤ _
    rw [List.length_cons, List.length_append]
    omega
theorem jn_len {S : List UInt8} (h : (lexA S).2 = none) : (jn (lexA S).1).length ≤ 2 * S.length := by
  have := (jtl_len S _ 0 (lexA_cov h)).2
  cases hq : (lexA S).1 with
  | nil => exact Nat.zero_le _
  | cons t ts =>
    rw [hq] at this
    have e : jtl (t :: ts) = 32 :: jn (t :: ts) := rfl
    rw [e, List.length_cons] at this
    omega
/-- the text behind k tokens -/
theorem jn_step (ts : List Tk) {k : Nat} (hk : k < ts.length) : jn (ts.take (k + 1)) = (if 0 < k then jn (ts.take k) ++ [32] else jn (ts.take k)) ++ ts[k].text := by
  have hj : ∀ (us : List Tk) (j : Nat) (hj : j < us.length), jtl (us.take (j + 1)) = jtl (us.take j) ++ 32 :: us[j].text := by
    intro us
    induction us with
    | nil => intro j hj; simp at hj
    | cons u us ih =>
      intro j hj
      cases j with
      | zero => show 32 :: (u.text ++ []) = [] ++ 32 :: u.text; simp
      | succ j =>
        show 32 :: (u.text ++ jtl (us.take (j + 1))) = 32 :: (u.text ++ jtl (us.take j)) ++ 32 :: (us[j]'(by simpa using hj)).text
        rw [ih j (by simpa using hj)]
        simp
  cases ts with
  | nil => simp at hk
  | cons t ts =>
    cases k with
    | zero => show t.text ++ [] = [] ++ t.text; simp
    | succ k =>
      rw [if_pos (by omega)]
      show t.text ++ jtl (ts.take (k + 1)) = t.text ++ jtl (ts.take k) ++ [32] ++ (ts[k]'(by simpa using hk)).text
      rw [hj ts k (by simpa using hk)]
      simp
theorem jn_mono (ts : List Tk) (k : Nat) : (jn (ts.take k)).length ≤ (jn ts).length := by
  have hj : ∀ (us : List Tk) (j : Nat), (jtl (us.take j)).length ≤ (jtl us).length := by
    intro us
    induction us with
    | nil => intro j; simp
    | cons u us ih =>
      intro j
      cases j with
      | zero => exact Nat.zero_le _
      | succ j =>
        show (32 :: (u.text ++ jtl (us.take j))).length ≤ (32 :: (u.text ++ jtl us)).length
        rw [List.length_cons, List.length_cons, List.length_append, List.length_append]
        have := ih j
        omega
  cases ts with
  | nil => simp
  | cons t ts =>
    cases k with
    | zero => exact Nat.zero_le _
    | succ k =>
      show (t.text ++ jtl (ts.take k)).length ≤ (t.text ++ jtl ts).length
      rw [List.length_append, List.length_append]
      have := hj ts k
      omega
theorem jtl_flat (ts : List Tk) : jtl ts = (ts.map fun t => [32] ++ t.text).flatten := by
  induction ts with
  | nil => rfl
  | cons t ts ih => rw [List.map_cons, List.flatten_cons, ← ih]; rfl
end Go.Proofs.YtcckocaaoklibaaDoor.Kx
