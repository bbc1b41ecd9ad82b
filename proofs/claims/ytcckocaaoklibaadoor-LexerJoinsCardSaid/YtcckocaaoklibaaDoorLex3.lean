/- Plain laws of lexing: tokens in other company; prefixes, texts put together, joined texts, names. -/
import Derived.Test.YtcckocaaoklibaaDoorLex2
namespace Go.Proofs.YtcckocaaoklibaaDoor.Kx
set_option linter.unusedVariables false

/-- a byte that parts tokens -/
def sepC (c : UInt8) : Bool := c == 10 || c == 32 || c == 9 || c == 35
theorem sep_al {c : UInt8} (h : sepC c = true) : alC c = false := by
  unfold sepC at h
  simp only [Bool.or_eq_true, beq_iff_eq] at h
  rcases h with ((rfl | rfl) | rfl) | rfl <;> decide
theorem sep_dbl {a c : UInt8} (h : sepC c = true) : dbl.contains (a, c) = false := by
  unfold sepC at h
  simp only [Bool.or_eq_true, beq_iff_eq] at h
  rcases h with ((rfl | rfl) | rfl) | rfl <;> simp [dbl]
/-- may q follow the token at the beginning of l? -/
def fol (l : List UInt8) (q : List UInt8) : Prop := ∀ c r, q = c :: r → sepC c = true ∨ (l.drop (tk l).2.1).head? = some c
theorem run_app {p q : List UInt8} (hp : p.all alC = true) (hq : ∀ c r, q = c :: r → alC c = false) : (p ++ q).takeWhile alC = p := by
  rw [List.takeWhile_append_of_pos (fun a ha => List.all_eq_true.1 hp a ha)]
  cases q with
  | nil => simp
  | cons c r => rw [List.takeWhile_cons, if_neg (by rw [hq c r rfl]; decide), List.append_nil]
theorem run_all (l : List UInt8) : (l.takeWhile alC).all alC = true := by
  induction l with
  | nil => rfl
  | cons a l ih =>
    rw [List.takeWhile_cons]
    split
    · rw [List.all_cons, ih, Bool.and_true]; assumption
    · rfl
theorem run_next (l : List UInt8) {c : UInt8} (h : (l.drop (l.takeWhile alC).length).head? = some c) : alC c = false := by
  induction l with
  | nil => simp at h
  | cons a l ih =>
    rw [List.takeWhile_cons] at h
    split at h
    · exact ih (by simpa using h)
    · rename_i hn
      simp at h
      subst h
      simpa using hn
theorem tk_fol {l q : List UInt8} (h : (tk l).2.2 = 0) (hf : fol l q) : tk (l.take (tk l).2.1 ++ q) = tk l := by
  have hp := tk_pos h
  unfold fol at hf
  rcases tk_cases l with rfl | ⟨c, r, rfl, h1⟩
  · exact absurd h (by decide)
  have halnum : alC c = true → (tk (c :: r)).2.1 = ((c :: r).takeWhile alC).length → ((c :: r).take (tk (c :: r)).2.1 ++ q).takeWhile alC = (c :: r).takeWhile alC := fun ha e => by
    rw [e] at hf ⊢
    rw [show (c :: r).take ((c :: r).takeWhile alC).length = (c :: r).takeWhile alC by
      obtain ⟨t, ht⟩ := List.takeWhile_prefix alC (l := c :: r)
      conv => lhs; arg 2; rw [← ht]
      rw [List.take_left]]
    exact run_app (run_all _) fun x y hq => by
      rcases hf x y hq with k | k
      · exact sep_al k
      · exact run_next _ k
  have hhead : ∃ m, (tk (c :: r)).2.1 = m + 1 := ⟨(tk (c :: r)).2.1 - 1, by omega⟩
  rcases h1 with h1 | ⟨h1, h2⟩ | ⟨h1, h2⟩
  · have ha : alC c = true := by unfold alC; rw [h1]; rfl
    have en : (tk (c :: r)).2.1 = ((c :: r).takeWhile alC).length := by rw [tk_let h1]; split <;> rfl
    have e := halnum ha en
    obtain ⟨m, hm⟩ := hhead
    have ex : (c :: r).take (tk (c :: r)).2.1 ++ q = c :: (r.take m ++ q) := by rw [hm]; rfl
    rw [ex] at e ⊢
    rw [tk_let h1, tk_let h1, e]
  · have ha : alC c = true := by unfold alC; rw [h2]; simp
    have en : (tk (c :: r)).2.1 = ((c :: r).takeWhile alC).length := by rw [tk_dig h1 h2]
    have e := halnum ha en
    obtain ⟨m, hm⟩ := hhead
    have ex : (c :: r).take (tk (c :: r)).2.1 ++ q = c :: (r.take m ++ q) := by rw [hm]; rfl
    rw [ex] at e ⊢
    rw [tk_dig h1 h2, tk_dig h1 h2, e]
  · have en : (tk (c :: r)).2.1 = sgN (c :: r) := by rw [tk_sig h1 h2]
    have hs : sgN ((c :: r).take (tk (c :: r)).2.1 ++ q) = sgN (c :: r) := by
      rw [en] at hf hp ⊢
      cases r with
      | nil =>
        have e1 : sgN [c] = 1 := by
          have := hp.2; simp at this; omega
        rw [e1] at hf ⊢
        have hsg : sgl.contains c = true := by
          have : (if sgl.contains c then 1 else 0) = 1 := e1
          cases hc : sgl.contains c with
          | true => rfl
          | false => rw [hc] at this; simp at this
        cases q with
        | nil => exact e1
        | cons x y =>
          rcases hf x y rfl with k | k
          · show (if dbl.contains (c, x) then 2 else if sgl.contains c then 1 else 0) = 1
            rw [sep_dbl k, hsg]; rfl
          · simp at k
      | cons b r =>
        have e0 : sgN (c :: b :: r) = if dbl.contains (c, b) then 2 else if sgl.contains c then 1 else 0 := rfl
        cases hd : dbl.contains (c, b) with
        | true =>
          rw [hd, if_pos rfl] at e0
          rw [e0]
          show (if dbl.contains (c, b) then 2 else if sgl.contains c then 1 else 0) = 2
          rw [hd]; rfl
        | false =>
          rw [hd, if_neg (by decide)] at e0
          have hsg : sgl.contains c = true := by
            cases hc : sgl.contains c with
            | true => rfl
            | false => rw [hc] at e0; rw [e0] at hp; simp at hp
          rw [hsg, if_pos rfl] at e0
          rw [e0] at hf ⊢
          cases q with
          | nil => show (if sgl.contains c then 1 else 0) = 1; rw [hsg]; rfl
          | cons x y =>
            show (if dbl.contains (c, x) then 2 else if sgl.contains c then 1 else 0) = 1
            rcases hf x y rfl with k | k
            · rw [sep_dbl k, hsg]; rfl
            · simp at k
              subst k
              rw [hd, hsg]; rfl
    obtain ⟨m, hm⟩ := hhead
    have ex : (c :: r).take (tk (c :: r)).2.1 ++ q = c :: (r.take m ++ q) := by rw [hm]; rfl
    rw [ex] at hs ⊢
    rw [tk_sig h1 h2, tk_sig h1 h2, hs]

/-! ### skipping in part -/
theorem skip_take (x : List UInt8) : ∀ (cm : Bool) (m : Nat), x.length - (skipL cm x).length ≤ m → skipL cm (x.take m) = (skipL cm x).take (m - (x.length - (skipL cm x).length)) := by
  induction x with
  | nil => intro cm m _; simp [skipL]
  | cons c x ih =>
    intro cm m hm
    have hgo : ∀ cm2, skipL cm (c :: x) = skipL cm2 x → (∀ y, skipL cm (c :: y) = skipL cm2 y) → skipL cm ((c :: x).take m) = (skipL cm (c :: x)).take (m - ((c :: x).length - (skipL cm (c :: x)).length)) := fun cm2 e1 e2 => by
      have hl := skip_len cm2 x
      rw [e1, List.length_cons] at hm
      cases m with
      | zero => omega
      | succ m =>
        rw [List.take_succ_cons, e2, e1, ih cm2 m (by omega), List.length_cons]
        congr 1
        omega
    by_cases h10 : (c == 10) = true
    · exact hgo false (by rw [skip_cons, if_pos h10]) (fun y => by rw [skip_cons, if_pos h10])
    by_cases h35 : (c == 35) = true
    · exact hgo true (by rw [skip_cons, if_neg h10, if_pos h35]) (fun y => by rw [skip_cons, if_neg h10, if_pos h35])
    by_cases hb : blC c = true
    · exact hgo cm (by rw [skip_cons, if_neg h10, if_neg h35, if_pos hb]) (fun y => by rw [skip_cons, if_neg h10, if_neg h35, if_pos hb])
    cases cm with
    | true => exact hgo true (by rw [skip_cons, if_neg h10, if_neg h35, if_neg hb, if_pos rfl]) (fun y => by rw [skip_cons, if_neg h10, if_neg h35, if_neg hb, if_pos rfl])
    | false =>
      have e : ∀ y, skipL false (c :: y) = c :: y := fun y => by rw [skip_cons, if_neg h10, if_neg h35, if_neg hb, if_neg (by decide)]
      rw [e x]
      cases m with
      | zero => simp [skipL]
      | succ m => rw [List.take_succ_cons, e, Nat.sub_self, Nat.sub_zero, List.take_succ_cons]
theorem skip_take_app (x : List UInt8) : ∀ (cm : Bool) (m : Nat) (W : List UInt8), x.length - (skipL cm x).length < m → m ≤ x.length → skipL cm (x.take m ++ W) = (skipL cm x).take (m - (x.length - (skipL cm x).length)) ++ W := by
  induction x with
  | nil => intro cm m W h1 h2; simp at h2; omega
  | cons c x ih =>
    intro cm m W hm hm2
    have hgo : ∀ cm2, skipL cm (c :: x) = skipL cm2 x → (∀ y, skipL cm (c :: y) = skipL cm2 y) → skipL cm ((c :: x).take m ++ W) = (skipL cm (c :: x)).take (m - ((c :: x).length - (skipL cm (c :: x)).length)) ++ W := fun cm2 e1 e2 => by
      have hl := skip_len cm2 x
      rw [e1, List.length_cons] at hm
      cases m with
      | zero => omega
      | succ m =>
        rw [List.take_succ_cons, List.cons_append, e2, e1, ih cm2 m W (by omega) (by simpa using hm2), List.length_cons]
        congr 2
        omega
    by_cases h10 : (c == 10) = true
    · exact hgo false (by rw [skip_cons, if_pos h10]) (fun y => by rw [skip_cons, if_pos h10])
    by_cases h35 : (c == 35) = true
    · exact hgo true (by rw [skip_cons, if_neg h10, if_pos h35]) (fun y => by rw [skip_cons, if_neg h10, if_pos h35])
    by_cases hb : blC c = true
    · exact hgo cm (by rw [skip_cons, if_neg h10, if_neg h35, if_pos hb]) (fun y => by rw [skip_cons, if_neg h10, if_neg h35, if_pos hb])
    cases cm with
    | true => exact hgo true (by rw [skip_cons, if_neg h10, if_neg h35, if_neg hb, if_pos rfl]) (fun y => by rw [skip_cons, if_neg h10, if_neg h35, if_neg hb, if_pos rfl])
    | false =>
      have e : ∀ y, skipL false (c :: y) = c :: y := fun y => by rw [skip_cons, if_neg h10, if_neg h35, if_neg hb, if_neg (by decide)]
      rw [e x]
      cases m with
      | zero => omega
      | succ m => rw [List.take_succ_cons, List.cons_append, e, Nat.sub_self, Nat.sub_zero, List.take_succ_cons, List.cons_append]

/-! ### before an error -/
theorem lex_pos {N : Nat} {p : Nat} {c : Int} : ∀ l, hdOk l → (lexR N l).2 = some (p, c) → ∃ m, m ≤ l.length ∧ p = N - m := by
  refine lexR_ind (N := N) ?_ ?_ ?_
  · intro h; cases h
  · intro l h1 _ h2 h
    rw [lexR_bad h1 h2] at h
    injection h with h
    injection h with h _
    exact ⟨l.length, Nat.le_refl _, h.symm⟩
  · intro l h1 _ h2 ih h
    rw [lexR_ok h2] at h
    obtain ⟨m, hm, e⟩ := ih h
    have h3 := skip_len false (l.drop (tk l).2.1)
    rw [List.length_drop] at h3
    exact ⟨m, by omega, e⟩
theorem lex_prefix {M : Nat} {p : Nat} {c : Int} (N : Nat) : ∀ l, hdOk l → l.length ≤ M → (lexR M l).2 = some (p, c) → (lexR N (l.take (p - (M - l.length)))).2 = none := by
  refine lexR_ind (N := M) ?_ ?_ ?_
  · intro _ h; cases h
  · intro l h1 _ h2 hM h
    rw [lexR_bad h1 h2] at h
    injection h with h
    injection h with h _
    subst h
    rw [Nat.sub_self, List.take_zero]; rfl
  · intro l h1 hd h2 ih hM h
    rw [lexR_ok h2] at h
    have hp := tk_pos h2
    have h3 := skip_len false (l.drop (tk l).2.1)
    rw [List.length_drop] at h3
    have ih2 := ih (by omega) h
    obtain ⟨m, hm, e⟩ := lex_pos _ (skip_hd _ _) h
    have hle : (tk l).2.1 ≤ p - (M - l.length) := by omega
    have e1 : l.take (p - (M - l.length)) = l.take (tk l).2.1 ++ (l.drop (tk l).2.1).take (p - (M - l.length) - (tk l).2.1) := by
      conv => lhs; rw [← List.take_append_drop (tk l).2.1 (l.take (p - (M - l.length)))]
      rw [List.take_take, List.drop_take, Nat.min_eq_left hle]
    have hf : fol l ((l.drop (tk l).2.1).take (p - (M - l.length) - (tk l).2.1)) := fun x y hq => by
      right
      cases hdl : l.drop (tk l).2.1 with
      | nil => rw [hdl] at hq; simp at hq
      | cons a b =>
        rw [hdl] at hq
        cases hz : p - (M - l.length) - (tk l).2.1 with
        | zero => rw [hz] at hq; simp at hq
        | succ z => rw [hz, List.take_succ_cons] at hq; injection hq with hq _; rw [hq]; rfl
    have htk := tk_fol h2 hf
    rw [e1]
    rw [lexR_ok (by rw [htk]; exact h2)]
    rw [htk]
    have e2 : (l.take (tk l).2.1 ++ (l.drop (tk l).2.1).take (p - (M - l.length) - (tk l).2.1)).drop (tk l).2.1 = (l.drop (tk l).2.1).take (p - (M - l.length) - (tk l).2.1) := by
      rw [List.drop_append_of_le_length (by rw [List.length_take]; omega), List.drop_of_length_le (by rw [List.length_take]; omega), List.nil_append]
    rw [e2, skip_take _ false _ (by rw [List.length_drop]; omega)]
    have e3 : p - (M - l.length) - (tk l).2.1 - ((l.drop (tk l).2.1).length - (skipL false (l.drop (tk l).2.1)).length) = p - (M - (skipL false (l.drop (tk l).2.1)).length) := by
      rw [List.length_drop]; omega
    rw [e3]
    exact ih2
/-- what stands before an error is free of errors -/
theorem lexA_prefix {l : List UInt8} {p : Nat} {c : Int} (h : (lexA l).2 = some (p, c)) : p ≤ l.length ∧ (lexA (l.take p)).2 = none := by
  unfold lexA at h ⊢
  have h3 := skip_len false l
  obtain ⟨m, hm, e⟩ := lex_pos _ (skip_hd _ _) h
  have := lex_prefix (l.take p).length _ (skip_hd _ _) h3 h
  refine ⟨by omega, ?_⟩
  rw [skip_take l false p (by omega)]
  exact this

/-! ### two texts with a line feed between them -/
/-- a token that stands d bytes further on -/
def shT (d : Nat) (t : Tk) : Tk := ⟨t.kind, t.text, t.pos + d⟩
theorem lex_shift {N : Nat} (d : Nat) : ∀ l, hdOk l → l.length ≤ N → lexR (N + d) l = ((lexR N l).1.map (shT d), (lexR N l).2.map fun x => (x.1 + d, x.2)) := by
  refine lexR_ind (N := N) ?_ ?_ ?_
  · intro _; rfl
  · intro l h1 _ h2 hN
    rw [lexR_bad h1 h2, lexR_bad h1 h2]
    show ([], some (N + d - l.length, _)) = ([], some (N - l.length + d, _))
    rw [show N + d - l.length = N - l.length + d by omega]
  · intro l h1 _ h2 ih hN
    have h3 := skip_len false (l.drop (tk l).2.1)
    rw [List.length_drop] at h3
    rw [lexR_ok h2, lexR_ok h2, ih (by omega), List.map_cons]
    unfold shT
    rw [show N + d - l.length = N - l.length + d by omega]
theorem skip_skip_nl (x t : List UInt8) : skipL false (skipL false x ++ 10 :: t) = skipL false (x ++ 10 :: t) := by
  rw [skip_app_nl, skip_app_nl, skip_id (skip_hd _ _)]
theorem lex_app {M : Nat} (t : List UInt8) : ∀ l, hdOk l → l.length ≤ M → (lexR M l).2 = none →
    lexR (M + (t.length + 1)) (skipL false (l ++ 10 :: t)) = ((lexR M l).1 ++ (lexR (M + (t.length + 1)) (skipL false t)).1, (lexR (M + (t.length + 1)) (skipL false t)).2) := by
  refine lexR_ind (N := M) ?_ ?_ ?_
  · intro _ _; rfl
  · intro l h1 _ h2 _ h
    rw [lexR_bad h1 h2] at h; cases h
  · intro l h1 hd h2 ih hM h
    rw [lexR_ok h2] at h ⊢
    have hp := tk_pos h2
    have h3 := skip_len false (l.drop (tk l).2.1)
    rw [List.length_drop] at h3
    have ih2 := ih (by omega) h
    have e0 : skipL false (l ++ 10 :: t) = l ++ 10 :: t := by rw [skip_app_nl, skip_id hd, if_neg h1]
    have e1 : l ++ 10 :: t = l.take (tk l).2.1 ++ (l.drop (tk l).2.1 ++ 10 :: t) := by rw [← List.append_assoc, List.take_append_drop]
    have hf : fol l (l.drop (tk l).2.1 ++ 10 :: t) := fun x y hq => by
      cases hdl : l.drop (tk l).2.1 with
      | nil => rw [hdl] at hq; injection hq with hq _; left; rw [← hq]; decide
      | cons a b => rw [hdl] at hq; injection hq with hq _; right; rw [hq]; rfl
    have htk := tk_fol h2 hf
    rw [← e1] at htk
    rw [e0, lexR_ok (by rw [htk]; exact h2), htk]
    have e2 : (l ++ 10 :: t).drop (tk l).2.1 = l.drop (tk l).2.1 ++ 10 :: t := List.drop_append_of_le_length hp.2
    have e3 : (l ++ 10 :: t).take (tk l).2.1 = l.take (tk l).2.1 := List.take_append_of_le_length hp.2
    rw [e2, e3, ← skip_skip_nl, ih2, List.length_append, List.length_cons]
    rw [show M + (t.length + 1) - (l.length + (t.length + 1)) = M - l.length by omega]
    rfl
/-- the tokens of two texts, one behind the other with a line feed between them -/
theorem lexA_app {s t : List UInt8} (h : (lexA s).2 = none) : lexA (s ++ 10 :: t) = ((lexA s).1 ++ (lexA t).1.map (shT (s.length + 1)), (lexA t).2.map fun x => (x.1 + (s.length + 1), x.2)) := by
  unfold lexA at h ⊢
  have h1 := lex_app (M := s.length) t _ (skip_hd false s) (skip_len _ _) h
  have h2 := lex_shift (N := t.length) (s.length + 1) _ (skip_hd false t) (skip_len _ _)
  rw [List.length_append, List.length_cons, ← skip_skip_nl, h1]
  rw [show s.length + (t.length + 1) = t.length + (s.length + 1) by omega, h2]

/-! ### tokens stand in their text -/
def Cov (S : List UInt8) : Nat → List Tk → Prop
  | E, [] => E ≤ S.length ∧ skipL false (S.drop E) = []
  | E, t :: ts => E ≤ t.pos ∧ t.text ≠ [] ∧ t.pos + t.text.length ≤ S.length ∧ (S.drop t.pos).take t.text.length = t.text ∧ skipL false ((S.take t.pos).drop E) = [] ∧ Cov S (t.pos + t.text.length) ts
theorem lex_cov (S : List UInt8) : ∀ l, hdOk l → ∀ E, E ≤ S.length → skipL false (S.drop E) = l → (lexR S.length l).2 = none → Cov S E (lexR S.length l).1 := by
  refine lexR_ind (N := S.length) ?_ ?_ ?_
  · intro E hE hl _; exact ⟨hE, hl⟩
  · intro l h1 _ h2 E hE hl h
    rw [lexR_bad h1 h2] at h; cases h
  · intro l h1 hd h2 ih E hE hl h
    rw [lexR_ok h2] at h ⊢
    have hp := tk_pos h2
    have hll := skip_len false (S.drop E)
    rw [hl, List.length_drop] at hll
    have hsd := skip_drop false (S.drop E)
    rw [hl, List.drop_drop, List.length_drop] at hsd
    have hpos : E + (S.length - E - l.length) = S.length - l.length := by omega
    rw [hpos] at hsd
    have htl : (l.take (tk l).2.1).length = (tk l).2.1 := by rw [List.length_take]; omega
    refine ⟨by show E ≤ S.length - l.length; omega, ?_, ?_, ?_, ?_, ?_⟩
    · show l.take (tk l).2.1 ≠ []
      intro e
      rw [e] at htl
      simp at htl; omega
    · show S.length - l.length + (l.take (tk l).2.1).length ≤ S.length
      rw [htl]; omega
    · show (S.drop (S.length - l.length)).take (l.take (tk l).2.1).length = l.take (tk l).2.1
      rw [htl, ← hsd]
    · show skipL false ((S.take (S.length - l.length)).drop E) = []
      rw [List.drop_take, skip_take _ false _ (by rw [hl, List.length_drop]; omega), hl, List.length_drop, show S.length - l.length - E - (S.length - E - l.length) = 0 by omega, List.take_zero]
    · show Cov S (S.length - l.length + (l.take (tk l).2.1).length) _
      rw [htl]
      refine ih _ (by omega) ?_ h
      have e := congrArg (fun x => x.drop (tk l).2.1) hsd
      simp only [List.drop_drop] at e
      exact congrArg (skipL false) e.symm
theorem lexA_cov {S : List UInt8} (h : (lexA S).2 = none) : Cov S 0 (lexA S).1 := lex_cov S _ (skip_hd _ _) 0 (Nat.zero_le _) (by rw [List.drop_zero]) h
end Go.Proofs.YtcckocaaoklibaaDoor.Kx
