/- Plain laws of the texts of sets: what the reference's Parse accepts are just the texts of sets. -/
import Derived.Test.YtckenemkfegopaaDoorTx
namespace Go.Proofs.YtckenemkfegopaaDoor.Kt
set_option linter.unusedVariables false

/-- members behind the first one -/
def tlT : List Nat → List UInt8
  | [] => []
  | m :: r => 44 :: 32 :: (Lib.decDigits m ++ tlT r)
def pcT : List Nat → List UInt8
  | [] => []
  | m :: r => Lib.decDigits m ++ tlT r
/-- the text of a set -/
def txt (n : Nat) (ms : List Nat) : List UInt8 := 123 :: (pcT ms ++ 125 :: 47 :: Lib.decDigits n)
/-- strictly ascending behind last, none beyond mx -/
def asc (mx : Nat) : Int → List Nat → Prop
  | _, [] => True
  | last, m :: r => last < (m : Int) ∧ m ≤ mx ∧ asc mx (m : Int) r
/-- the members, as the reference reads them -/
def pL (mx : Nat) : Nat → Bool → Int → List UInt8 → Option (List Nat × List UInt8)
  | 0, _, _, _ => none
  | _ + 1, _, _, [] => some ([], [])
  | f + 1, first, last, c :: l =>
    if c = 125 then some ([], c :: l)
    else match (if first then some (c :: l) else if c = 44 ∧ l.head? = some 32 then some (l.drop 1) else none) with
      | none => none
      | some l2 => match numR mx l2 with
        | none => none
        | some (n, k) => if (n : Int) ≤ last then none else (pL mx f false (n : Int) (l2.drop k)).map fun p => (n :: p.1, p.2)
theorem pL_some {mx : Nat} : ∀ (f : Nat) (first : Bool) (last : Int) (l : List UInt8) (ms : List Nat) (r : List UInt8), pL mx f first last l = some (ms, r) →
    asc mx last ms ∧ l = (if first then pcT ms else tlT ms) ++ r ∧ (r = [] ∨ r.head? = some 125) := by
  intro f
  induction f with
  | zero => intro first last l ms r h; cases h
  | succ f ih =>
    intro first last l ms r h
    cases l with
    | nil =>
      injection h with h
      injection h with h1 h2
      subst h1 h2
      exact ⟨trivial, by cases first <;> rfl, .inl rfl⟩
    | cons c l =>
      unfold pL at h
      split at h
      · rename_i hc
        injection h with h
        injection h with h1 h2
        subst h1 h2 hc
        exact ⟨trivial, by cases first <;> rfl, .inr rfl⟩
      · split at h
        · cases h
        · rename_i l2 hl2
          split at h
          · cases h
          · rename_i n k hn
            split at h
            · cases h
            · rename_i hlast
              cases hp : pL mx f false (n : Int) (l2.drop k) with
              | none => rw [hp] at h; cases h
              | some p =>
                rw [hp] at h
                injection h with h
                injection h with h1 h2
                obtain ⟨ms2, r2⟩ := p
                dsimp only at h1 h2
                subst h1 h2
                obtain ⟨i1, i2, i3⟩ := ih _ _ _ _ _ hp
                obtain ⟨j1, j2, _⟩ := numR_some hn
                have e : l2 = pcT (n :: ms2) ++ r2 := by
                  rw [j2, i2]
                  show Lib.decDigits n ++ (tlT ms2 ++ r2) = Lib.decDigits n ++ tlT ms2 ++ r2
                  rw [List.append_assoc]
                refine ⟨⟨by omega, j1, i1⟩, ?_, i3⟩
                cases first with
                | true =>
                  injection hl2 with hl2
                  rw [hl2, e]; rfl
                | false =>
                  rw [if_neg (by decide)] at hl2
                  split at hl2
                  · rename_i hc
                    injection hl2 with hl2
                    obtain ⟨rfl, hh⟩ := hc
                    cases l with
                    | nil => cases hh
                    | cons b l =>
                      injection hh with hh
                      subst hh
                      have hl3 : l = l2 := hl2
                      rw [hl3, e]; rfl
                  · cases hl2
theorem dec_cons (m : Nat) : ∃ c t, Lib.decDigits m = c :: t ∧ digC c = true := by
  have h := dec_ne m
  have h2 := dec_dig m
  cases hq : Lib.decDigits m with
  | nil => exact absurd hq h
  | cons c t => rw [hq, List.all_cons, Bool.and_eq_true] at h2; exact ⟨c, t, rfl, h2.1⟩
theorem pL_txt {mx : Nat} (r : List UInt8) : ∀ (ms : List Nat) (f : Nat) (first : Bool) (last : Int), ms.length < f → asc mx last ms →
    pL mx f first last ((if first then pcT ms else tlT ms) ++ 125 :: r) = some (ms, 125 :: r) := by
  intro ms
  induction ms with
  | nil =>
    intro f first last hf _
    cases f with
    | zero => simp at hf
    | succ f => cases first <;> rfl
  | cons m ms ih =>
    intro f first last hf ha
    obtain ⟨h1, h2, h3⟩ := ha
    cases f with
    | zero => simp at hf
    | succ f =>
      have i := ih f false (m : Int) (by simpa using hf) h3
      rw [if_neg (by decide)] at i
      have hd : ∀ c t, tlT ms ++ 125 :: r = c :: t → digC c = false := fun c t e => by
        cases ms with
        | nil => injection e with e _; rw [← e]; decide
        | cons x ms => injection e with e _; rw [← e]; decide
      have hn := numR_dec h2 (tlT ms ++ 125 :: r) hd
      have hdr : (Lib.decDigits m ++ (tlT ms ++ 125 :: r)).drop (Lib.decDigits m).length = tlT ms ++ 125 :: r := List.drop_left
      cases first with
      | true =>
        rw [if_pos rfl]
        show pL mx (f + 1) true last (Lib.decDigits m ++ tlT ms ++ 125 :: r) = _
        rw [List.append_assoc]
        obtain ⟨c, t, e, hc⟩ := dec_cons m
        rw [e] at hn hdr ⊢
        rw [List.cons_append] at hn hdr ⊢
        unfold pL
        rw [if_neg (by rintro rfl; revert hc; decide), if_pos rfl]
        dsimp only
        rw [hn]
        dsimp only
        rw [if_neg (by omega), hdr, i]
        rfl
      | false =>
        rw [if_neg (by decide)]
        show pL mx (f + 1) false last (44 :: 32 :: (Lib.decDigits m ++ tlT ms ++ 125 :: r)) = _
        rw [List.append_assoc]
        unfold pL
        rw [if_neg (by decide), if_neg (by decide), if_pos ⟨rfl, rfl⟩]
        dsimp only
        rw [List.drop_succ_cons, List.drop_zero, hn]
        dsimp only
        rw [if_neg (by omega), hdr, i]
        rfl
/-- the last member, or -1 -/
def lastT : Int → List Nat → Int
  | last, [] => last
  | _, m :: r => lastT (m : Int) r
/-- the reference's Parse -/
def pR (mx : Nat) (t : List UInt8) : Option (Nat × List Nat) :=
  match t with
  | 123 :: l => match pL mx (l.length + 1) true (-1) l with
    | some (ms, 125 :: 47 :: l2) => match numR mx l2 with
      | some (n, k) => if k = l2.length ∧ lastT (-1) ms < (n : Int) then some (n, ms) else none
      | none => none
    | _ => none
  | _ => none
theorem pR_cons (mx : Nat) (l l2 : List UInt8) (ms : List Nat) (h : pL mx (l.length + 1) true (-1) l = some (ms, 125 :: 47 :: l2)) : pR mx (123 :: l) = match numR mx l2 with
      | some (n, k) => if k = l2.length ∧ lastT (-1) ms < (n : Int) then some (n, ms) else none
      | none => none := by
  show (match pL mx (l.length + 1) true (-1) l with
    | some (ms, 125 :: 47 :: l2) => match numR mx l2 with
      | some (n, k) => if k = l2.length ∧ lastT (-1) ms < (n : Int) then some (n, ms) else none
      | none => none
    | _ => none) = _
  rw [h]
  rfl
theorem tl_len (ms : List Nat) : ms.length ≤ (tlT ms).length := by
  induction ms with
  | nil => exact Nat.le_refl _
  | cons m r ih =>
    show r.length + 1 ≤ (Lib.decDigits m ++ tlT r).length + 1 + 1
    rw [List.length_append]; omega
theorem pR_txt {mx n : Nat} {ms : List Nat} (h1 : asc mx (-1) ms) (h2 : n ≤ mx) (h3 : lastT (-1) ms < (n : Int)) : pR mx (txt n ms) = some (n, ms) := by
  have hf : ms.length < (pcT ms ++ 125 :: 47 :: Lib.decDigits n).length + 1 := by
    rw [List.length_append, List.length_cons, List.length_cons]
    cases ms with
    | nil => simp
    | cons m r =>
      have := tl_len r
      show r.length + 1 < (Lib.decDigits m ++ tlT r).length + _ + 1
      rw [List.length_append]; omega
  have h := pL_txt (mx := mx) (47 :: Lib.decDigits n) ms _ true (-1) hf h1
  rw [if_pos rfl] at h
  have hn := numR_dec h2 [] (fun c t e => by cases e)
  rw [List.append_nil] at hn
  unfold txt
  rw [pR_cons mx _ _ _ h, hn]
  dsimp only
  rw [if_pos ⟨rfl, h3⟩]
theorem pR_some {mx n : Nat} {ms : List Nat} {t : List UInt8} (h : pR mx t = some (n, ms)) : t = txt n ms ∧ asc mx (-1) ms ∧ n ≤ mx ∧ lastT (-1) ms < (n : Int) := by
  unfold pR at h
  split at h
  · rename_i l
    split at h
    · rename_i ms' l2 hp
      split at h
      · rename_i n' k hn
        split at h
        · rename_i hk
          injection h with h
          injection h with e1 e2
          subst e1 e2
          obtain ⟨i1, i2, _⟩ := pL_some _ _ _ _ _ _ hp
          obtain ⟨j1, j2, _⟩ := numR_some hn
          rw [hk.1, List.drop_length, List.append_nil] at j2
          refine ⟨?_, i1, j1, hk.2⟩
          rw [i2, if_pos rfl, j2]; rfl
        · cases h
      · cases h
    · cases h
  · cases h
end Go.Proofs.YtckenemkfegopaaDoor.Kt
