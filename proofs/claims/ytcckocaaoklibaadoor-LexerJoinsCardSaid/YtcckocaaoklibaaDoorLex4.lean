/- Plain laws of lexing: white space and a comment behind a token; names and words. -/
import Derived.Test.YtcckocaaoklibaaDoorLex3
namespace Go.Proofs.YtcckocaaoklibaaDoor.Kx
set_option linter.unusedVariables false

def kt (t : Tk) : Int × List UInt8 := (t.kind, t.text)
theorem lex_kt (M N : Nat) : ∀ l, hdOk l → (lexR N l).2 = none → (lexR M l).2 = none ∧ (lexR M l).1.map kt = (lexR N l).1.map kt := by
  refine lexR_ind (N := N) ?_ ?_ ?_
  · intro _; exact ⟨rfl, rfl⟩
  · intro l h1 _ h2 h
    rw [lexR_bad h1 h2] at h; cases h
  · intro l h1 hd h2 ih h
    rw [lexR_ok h2] at h
    obtain ⟨i1, i2⟩ := ih h
    rw [lexR_ok h2, lexR_ok h2]
    refine ⟨i1, ?_⟩
    show kt _ :: List.map kt _ = kt _ :: List.map kt _
    rw [i2]; rfl
/-- what is put behind a token -/
def nopW : List UInt8 := [9, 35, 59, 32, 36, 10, 32]
theorem skip_nop (r : List UInt8) : skipL false (nopW ++ r) = skipL false r := rfl
theorem lex_ge (N : Nat) : ∀ l, hdOk l → l.length ≤ N → (lexR N l).2 = none → ∀ i, (h : i < (lexR N l).1.length) → N - l.length ≤ ((lexR N l).1[i]).pos := by
  refine lexR_ind (N := N) ?_ ?_ ?_
  · intro _ _ i h; exact absurd h (by simp [lexR_nil])
  · intro l h1 _ h2 _ h
    rw [lexR_bad h1 h2] at h; cases h
  · intro l h1 hd h2 ih hN h i hi
    have h3 := skip_len false (l.drop (tk l).2.1)
    rw [List.length_drop] at h3
    have hq0 := lexR_ok (N := N) h2
    rw [hq0] at h
    have ih2 := ih (by omega) h
    cases i with
    | zero =>
      have e0 : (lexR N l).1[0] = ⟨(tk l).1, l.take (tk l).2.1, N - l.length⟩ := by
        simp only [hq0]; rfl
      rw [e0]; exact Nat.le_refl _
    | succ i =>
      have hi2 : i < (lexR N (skipL false (l.drop (tk l).2.1))).1.length := by
        rw [hq0] at hi; simpa using hi
      have e0 : (lexR N l).1[i + 1] = (lexR N (skipL false (l.drop (tk l).2.1))).1[i] := by
        simp only [hq0]; rfl
      rw [e0]
      have := ih2 i hi2
      omega
theorem lex_sp (M N : Nat) : ∀ l, hdOk l → l.length ≤ N → (lexR N l).2 = none → ∀ i e, (h : i < (lexR N l).1.length) → e + (N - l.length) = ((lexR N l).1[i]).pos + ((lexR N l).1[i]).text.length →
    0 < e ∧ e ≤ l.length ∧ (lexR M (l.take e ++ (nopW ++ l.drop e))).2 = none ∧ (lexR M (l.take e ++ (nopW ++ l.drop e))).1.map kt = (lexR N l).1.map kt := by
  refine lexR_ind (N := N) ?_ ?_ ?_
  · intro _ _ i e h; exact absurd h (by simp [lexR_nil])
  · intro l h1 _ h2 _ h
    rw [lexR_bad h1 h2] at h; cases h
  · intro l h1 hd h2 ih hN h i e hi he
    have hp := tk_pos h2
    have h3 := skip_len false (l.drop (tk l).2.1)
    have hsd := skip_drop false (l.drop (tk l).2.1)
    have hhd := skip_hd false (l.drop (tk l).2.1)
    have hq0 := lexR_ok (N := N) h2
    rw [hq0] at h
    have hkt := lex_kt M N _ hhd h
    have ih2 := ih (by rw [List.length_drop] at h3; omega) h
    rw [List.length_drop] at h3 hsd
    have htl : (l.take (tk l).2.1).length = (tk l).2.1 := by rw [List.length_take]; omega
    cases i with
    | zero =>
      have e0 : (lexR N l).1[0] = ⟨(tk l).1, l.take (tk l).2.1, N - l.length⟩ := by
        simp only [hq0]; rfl
      rw [e0] at he
      have hen : e = (tk l).2.1 := by
        have : e + (N - l.length) = N - l.length + (l.take (tk l).2.1).length := he
        omega
      subst hen
      have hf : fol l (nopW ++ l.drop (tk l).2.1) := fun x y hq => by
        left
        injection hq with hq _; rw [← hq]; decide
      have htk := tk_fol h2 hf
      refine ⟨hp.1, hp.2, ?_⟩
      rw [lexR_ok (N := M) (by rw [htk]; exact h2), htk, hq0]
      have e2 : (l.take (tk l).2.1 ++ (nopW ++ l.drop (tk l).2.1)).drop (tk l).2.1 = nopW ++ l.drop (tk l).2.1 := by
        rw [List.drop_append_of_le_length (by omega), List.drop_of_length_le (by omega), List.nil_append]
      have e3 : (l.take (tk l).2.1 ++ (nopW ++ l.drop (tk l).2.1)).take (tk l).2.1 = l.take (tk l).2.1 := by
        rw [List.take_append_of_le_length (by omega), List.take_of_length_le (by omega)]
      rw [e2, e3, skip_nop]
      refine ⟨hkt.1, ?_⟩
      show kt _ :: List.map kt _ = kt _ :: List.map kt _
      rw [hkt.2]; rfl
    | succ i =>
      have hi2 : i < (lexR N (skipL false (l.drop (tk l).2.1))).1.length := by
        rw [hq0] at hi; simpa using hi
      have e0 : (lexR N l).1[i + 1] = (lexR N (skipL false (l.drop (tk l).2.1))).1[i] := by
        simp only [hq0]; rfl
      rw [e0] at he
      have hge := lex_ge N _ hhd (by omega) h i hi2
      have hst := fun x W => skip_take_app (l.drop (tk l).2.1) false x W
      rw [List.length_drop] at hst
      obtain ⟨q1, q2, q3, q4⟩ := ih2 i (e - (l.length - (skipL false (l.drop (tk l).2.1)).length)) hi2 (by omega)
      have hq2 := hst (e - (tk l).2.1) (nopW ++ l.drop e) (by omega) (by omega)
      have ea : e - (tk l).2.1 - (l.length - (tk l).2.1 - (skipL false (l.drop (tk l).2.1)).length) = e - (l.length - (skipL false (l.drop (tk l).2.1)).length) := by omega
      rw [ea] at hq2
      have eb : l.drop e = (skipL false (l.drop (tk l).2.1)).drop (e - (l.length - (skipL false (l.drop (tk l).2.1)).length)) := by
        have e := congrArg (fun x => x.drop (e - (l.length - (skipL false (l.drop (tk l).2.1)).length))) hsd
        simp only [List.drop_drop] at e
        rw [e]
        congr 1
        omega
      have ec : l.take e = l.take (tk l).2.1 ++ (l.drop (tk l).2.1).take (e - (tk l).2.1) := by
        conv => lhs; rw [← List.take_append_drop (tk l).2.1 (l.take e)]
        rw [List.take_take, List.drop_take, Nat.min_eq_left (by omega)]
      rw [← eb] at q3 q4
      rw [← hq2] at q3 q4
      refine ⟨by omega, by omega, ?_⟩
      rw [ec, List.append_assoc]
      have hf : fol l ((l.drop (tk l).2.1).take (e - (tk l).2.1) ++ (nopW ++ l.drop e)) := fun x y hq => by
        right
        cases hdl : l.drop (tk l).2.1 with
        | nil =>
          have := congrArg List.length hdl
          rw [List.length_drop] at this
          simp at this
          omega
        | cons a b =>
          rw [hdl] at hq
          cases hz : e - (tk l).2.1 with
          | zero => omega
          | succ z => rw [hz, List.take_succ_cons] at hq; injection hq with hq _; rw [hq]; rfl
      have htk := tk_fol h2 hf
      rw [lexR_ok (N := M) (by rw [htk]; exact h2), htk, hq0]
      have e2 : ∀ q : List UInt8, (l.take (tk l).2.1 ++ q).drop (tk l).2.1 = q := fun q => by
        rw [List.drop_append_of_le_length (by omega), List.drop_of_length_le (by omega), List.nil_append]
      have e3 : ∀ q : List UInt8, (l.take (tk l).2.1 ++ q).take (tk l).2.1 = l.take (tk l).2.1 := fun q => by
        rw [List.take_append_of_le_length (by omega), List.take_of_length_le (by omega)]
      rw [e2, e3]
      refine ⟨q3, ?_⟩
      show kt _ :: List.map kt _ = kt _ :: List.map kt _
      rw [q4]; rfl
/-- white space and a comment behind token i change kinds and texts of no token -/
theorem lexA_sp {S : List UInt8} (h : (lexA S).2 = none) (i e : Nat) (hi : i < (lexA S).1.length) (he : e = ((lexA S).1[i]).pos + ((lexA S).1[i]).text.length) :
    (lexA (S.take e ++ (nopW ++ S.drop e))).2 = none ∧ (lexA (S.take e ++ (nopW ++ S.drop e))).1.map kt = (lexA S).1.map kt := by
  have hl := skip_len false S
  have he2 : e = ((lexR S.length (skipL false S)).1[i]'hi).pos + ((lexR S.length (skipL false S)).1[i]'hi).text.length := he
  clear he
  have hge : S.length - (skipL false S).length ≤ ((lexR S.length (skipL false S)).1[i]'hi).pos := lex_ge S.length _ (skip_hd false S) hl h i hi
  obtain ⟨q1, q2, q3, q4⟩ := lex_sp (S.take e ++ (nopW ++ S.drop e)).length S.length _ (skip_hd false S) hl h i (e - (S.length - (skipL false S).length)) hi (by omega)
  have hst := skip_take_app S false e (nopW ++ S.drop e) (by omega) (by omega)
  have hsd := skip_drop false S
  have eb : S.drop e = (skipL false S).drop (e - (S.length - (skipL false S).length)) := by
    have e := congrArg (fun x => x.drop (e - (S.length - (skipL false S).length))) hsd
    simp only [List.drop_drop] at e
    rw [e]
    congr 1
    omega
  rw [← eb, ← hst] at q3 q4
  exact ⟨q3, q4⟩
theorem kt_len {a b : List Tk} (h : a.map kt = b.map kt) : a.length = b.length := by
  have := congrArg List.length h
  rwa [List.length_map, List.length_map] at this
theorem kt_at {a b : List Tk} (h : a.map kt = b.map kt) {k : Nat} (ha : k < a.length) (hb : k < b.length) : a[k].kind = b[k].kind ∧ a[k].text = b[k].text := by
  have e : (a.map kt)[k]'(by rw [List.length_map]; exact ha) = (b.map kt)[k]'(by rw [List.length_map]; exact hb) := by simp only [h]
  rw [List.getElem_map, List.getElem_map] at e
  unfold kt at e
  injection e with e1 e2
  exact ⟨e1, e2⟩
theorem cov_at {S : List UInt8} : ∀ (ts : List Tk) (E : Nat), Cov S E ts → ∀ k, (h : k < ts.length) → ts[k].pos + ts[k].text.length ≤ S.length
  | [], _, _, k, h => absurd h (by simp)
  | t :: ts, E, ⟨_, _, h3, _, _, h6⟩, k, h => by
    cases k with
    | zero => exact h3
    | succ k => exact cov_at ts _ h6 k (by simpa using h)
end Go.Proofs.YtcckocaaoklibaaDoor.Kx
