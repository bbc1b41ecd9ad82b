/- Plain laws of Parse: what it makes of a text. -/
import Derived.Test.YtmhfdmidaheoeaaDoorTx
import Derived.Lib.SlTrimSet
namespace Go.Proofs.YtmhfdmidaheoeaaDoor.Kt
set_option linter.unusedVariables false

/-- digits without needless zeros? -/
def isNum (t : List UInt8) : Bool := t.all digC && (t == [48] || (!t.isEmpty && t.head? != some 48))
def negB (t : List UInt8) : Bool := t.head? == some 45
def body (t : List UInt8) : List UInt8 := if negB t then t.drop 1 else t
/-- the code and the integer that Parse makes -/
def pZ (t : List UInt8) : Int × Int :=
  if 601 < t.length then (5, 0)
  else if !isNum (body t) || (negB t && body t == [48]) then (6, 0)
  else if 600 < (body t).length then (5, 0)
  else (0, if negB t then -(valN (body t) : Int) else (valN (body t) : Int))
theorem isNum_canon {t : List UInt8} (h : isNum t = true) : canon t := by
  unfold isNum at h
  rw [Bool.and_eq_true, Bool.or_eq_true, Bool.and_eq_true] at h
  obtain ⟨h1, h2⟩ := h
  rcases h2 with h2 | ⟨h2, h3⟩
  · have e : t = [48] := by simpa using h2
    subst e
    exact ⟨by simp, h1, .inl rfl⟩
  · refine ⟨by intro e; subst e; simp at h2, h1, .inr ?_⟩
    simpa using h3
/-- the text of what was read is the text that was read -/
theorem pZ_text {t : List UInt8} (h : (pZ t).1 = 0) : Lib.itoa (pZ t).2 = t := by
  unfold pZ at h ⊢
  by_cases h1 : 601 < t.length
  · rw [if_pos h1] at h; cases h
  rw [if_neg h1] at h ⊢
  by_cases h2 : (!isNum (body t) || (negB t && body t == [48])) = true
  · rw [if_pos h2] at h; cases h
  rw [if_neg h2] at h ⊢
  by_cases h3 : 600 < (body t).length
  · rw [if_pos h3] at h; cases h
  rw [if_neg h3]
  simp only [Bool.or_eq_true, Bool.not_eq_true', not_or, Bool.not_eq_false, Bool.and_eq_true, not_and] at h2
  obtain ⟨h4, h5⟩ := h2
  have hc := isNum_canon h4
  have hd := canon_dec _ _ rfl hc
  cases hn : negB t with
  | true =>
    have h6 := h5 hn
    have e : t = 45 :: body t := by
      have e1 : body t = t.drop 1 := by unfold body; rw [hn]; rfl
      unfold negB at hn
      cases t with
      | nil => cases hn
      | cons c r =>
        have : c = 45 := by simpa using hn
        rw [e1, this]; rfl
    have hpos : 1 ≤ valN (body t) := by
      by_cases hl : 1 < (body t).length
      · exact canon_pos hc hl
      · obtain ⟨g1, g2, _⟩ := hc
        cases hb : body t with
        | nil => exact absurd hb g1
        | cons c r =>
          have hr : r = [] := by rw [hb] at hl; simp at hl; exact hl
          subst hr
          rw [hb] at g2 h6
          simp [digC] at g2
          have h7 : c ≠ 48 := fun e => h6 (by rw [e]; rfl)
          have h8 : c.toNat ≠ 48 := fun e => h7 (UInt8.toNat_inj.1 e)
          show 1 ≤ 0 * 10 + (c.toNat - 48)
          omega
    show Lib.itoa (if true = true then -(valN (body t) : Int) else (valN (body t) : Int)) = t
    rw [if_pos rfl, Lib.itoa_neg _ hpos, hd, ← e]
  | false =>
    have e1 : body t = t := by unfold body; rw [hn]; rfl
    show Lib.itoa (if false = true then -(valN (body t) : Int) else (valN (body t) : Int)) = t
    rw [if_neg (by decide), Lib.itoa_nonneg, hd, e1]
/-- the digits that Trim cuts -/
def digs : List UInt8 := [48, 49, 50, 51, 52, 53, 54, 55, 56, 57]
theorem digs_in (c : UInt8) : digs.contains c = digC c := by
  have h : ∀ k : Fin 256, digs.contains (UInt8.ofNat k.1) = digC (UInt8.ofNat k.1) := by decide +kernel
  have h2 := h ⟨c.toNat, c.toNat_lt⟩
  have e : UInt8.ofNat c.toNat = c := by simp
  simpa only [e] using h2
theorem dropWhile_nil {p : UInt8 → Bool} : ∀ l : List UInt8, l.dropWhile p = [] ↔ l.all p = true := by
  intro l
  induction l with
  | nil => simp
  | cons c l ih =>
    rw [List.dropWhile_cons, List.all_cons]
    cases hp : p c with
    | true => rw [if_pos rfl, ih]; simp
    | false => simp
theorem trim_all (l : List UInt8) : Lib.trimS l digs = [] ↔ l.all digC = true := by
  have hd : (fun c => digs.contains c) = digC := funext digs_in
  unfold Lib.trimS Lib.trimLeftS Lib.trimRightS
  rw [hd, dropWhile_nil, List.all_reverse]
  constructor
  · intro h
    have h2 : l.reverse.dropWhile digC = [] := by
      cases hq : l.reverse.dropWhile digC with
      | nil => rfl
      | cons c r =>
        have h3 := List.head?_dropWhile_not digC l.reverse
        rw [hq] at h3 h
        rw [List.all_cons, Bool.and_eq_true] at h
        simp [h.1] at h3
    rw [dropWhile_nil, List.all_reverse] at h2
    exact h2
  · intro h
    have h2 : l.reverse.dropWhile digC = [] := by rw [dropWhile_nil, List.all_reverse]; exact h
    rw [h2]; rfl
end Go.Proofs.YtmhfdmidaheoeaaDoor.Kt
