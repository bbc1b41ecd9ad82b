/- Plain laws of the texts of sets: what the package's Parse reads is what the reference's reads; the reference's loop, step by step. -/
import Derived.Test.YtckenemkfegopaaDoorTd
import Derived.Test.YtckenemkfegopaaDoorTm
import Derived.Test.YtckenemkfegopaaDoorW5
namespace Go.Proofs.YtckenemkfegopaaDoor.Kt
set_option linter.unusedVariables false

theorem asc_snoc {mx : Nat} : ∀ (ms : List Nat) (last : Int) (m : Nat), asc mx last ms → lastT last ms < (m : Int) → m ≤ mx → asc mx last (ms ++ [m]) := by
  intro ms
  induction ms with
  | nil => intro last m _ h h2; exact ⟨h, h2, trivial⟩
  | cons x r ih => intro last m h h1 h2; exact ⟨h.1, h.2.1, ih _ _ h.2.2 h1 h2⟩
theorem lastT_snoc : ∀ (ms : List Nat) (last : Int) (m : Nat), lastT last (ms ++ [m]) = (m : Int) := by
  intro ms
  induction ms with
  | nil => intro last m; rfl
  | cons x r ih => intro last m; exact ih _ _
theorem asc_mem {mx : Nat} : ∀ (ms : List Nat) (last : Int), asc mx last ms → last ≤ lastT last ms ∧ ∀ x ∈ ms, last < (x : Int) ∧ (x : Int) ≤ lastT last ms ∧ x ≤ mx := by
  intro ms
  induction ms with
  | nil => intro last _; exact ⟨Int.le_refl _, fun x hx => by cases hx⟩
  | cons m r ih =>
    intro last h
    obtain ⟨h1, h2, h3⟩ := h
    obtain ⟨i1, i2⟩ := ih _ h3
    have e : lastT last (m :: r) = lastT (m : Int) r := rfl
    rw [e]
    refine ⟨by omega, fun x hx => ?_⟩
    rcases List.mem_cons.1 hx with rfl | hx
    · exact ⟨h1, i1, h2⟩
    · have := i2 x hx; exact ⟨by omega, this.2.1, this.2.2⟩
theorem members_asc {mx : Nat} (f : Nat → Bool) : ∀ n : Nat, n ≤ mx + 1 → asc mx (-1) (Kb.membersTo f n) ∧ lastT (-1) (Kb.membersTo f n) < (n : Int) := by
  intro n
  induction n with
  | zero => intro _; exact ⟨trivial, (show (-1 : Int) < ((0 : Nat) : Int) by decide)⟩
  | succ n ih =>
    intro h
    obtain ⟨i1, i2⟩ := ih (by omega)
    rw [Kb.membersTo_succ]
    by_cases hf : f n = true
    · rw [if_pos hf]
      exact ⟨asc_snoc _ _ _ i1 i2 (by omega), by rw [lastT_snoc]; omega⟩
    · rw [if_neg hf, List.append_nil]
      exact ⟨i1, by omega⟩
theorem range_asc {mx : Nat} (f : Nat → Bool) : ∀ (d k : Nat) (ms : List Nat), asc mx ((k : Int) - 1) ms → lastT ((k : Int) - 1) ms < ((k + d : Nat) : Int) → (∀ i, k ≤ i → (f i = true ↔ i ∈ ms)) → (List.range' k d).filter f = ms := by
  intro d
  induction d with
  | zero =>
    intro k ms h1 h2 _
    cases ms with
    | nil => rfl
    | cons m r =>
      have := (asc_mem _ _ h1).2 m (List.mem_cons_self ..)
      omega
  | succ d ih =>
    intro k ms h1 h2 hf
    rw [List.range'_succ]
    by_cases hk : k ∈ ms
    · cases ms with
      | nil => cases hk
      | cons m r =>
        obtain ⟨a, b, c⟩ := h1
        have hmk : m = k := by
          rcases List.mem_cons.1 hk with e | e
          · exact e.symm
          · have := (asc_mem _ _ c).2 k e; omega
        subst hmk
        rw [List.filter_cons, if_pos ((hf m (Nat.le_refl _)).2 hk)]
        congr 1
        have e1 : ((m + 1 : Nat) : Int) - 1 = (m : Int) := by omega
        refine ih (m + 1) r (by rw [e1]; exact c) (by rw [e1]; have e2 : lastT ((m : Int) - 1) (m :: r) = lastT (m : Int) r := rfl; rw [e2] at h2; omega) fun i hi => ?_
        rw [hf i (by omega), List.mem_cons]
        constructor
        · rintro (e | e)
          · omega
          · exact e
        · exact .inr
    · rw [List.filter_cons, if_neg (fun e => hk ((hf k (Nat.le_refl _)).1 e))]
      have e1 : ((k + 1 : Nat) : Int) - 1 = (k : Int) := by omega
      refine ih (k + 1) ms ?_ ?_ fun i hi => hf i (by omega)
      · rw [e1]
        cases ms with
        | nil => trivial
        | cons m r =>
          obtain ⟨a, b, c⟩ := h1
          have : m ≠ k := fun e => hk (by rw [e]; exact List.mem_cons_self ..)
          exact ⟨by omega, b, c⟩
      · rw [e1]
        cases ms with
        | nil => show (k : Int) < _; omega
        | cons m r =>
          have e2 : lastT ((k : Int) - 1) (m :: r) = lastT (k : Int) (m :: r) := rfl
          rw [← e2]; omega
theorem members_of {mx n : Nat} {ms : List Nat} (h1 : asc mx (-1) ms) (h2 : lastT (-1) ms < (n : Int)) (f : Nat → Bool) (hf : ∀ i, f i = true ↔ i ∈ ms) : Kb.membersTo f n = ms := by
  unfold Kb.membersTo
  rw [List.range_eq_range']
  exact range_asc f n 0 ms (by simpa using h1) (by simpa using h2) fun i _ => hf i
theorem mem_cast (ms : List Nat) (i : Nat) : memB (ms.map fun m : Nat => (m : Int)) i = true ↔ i ∈ ms := by
  unfold memB
  rw [List.any_eq_true]
  constructor
  · rintro ⟨z, hz, e⟩
    obtain ⟨m, hm, rfl⟩ := List.mem_map.1 hz
    have e2 : ((m : Nat) : Int) = (i : Int) := by simpa using e
    have : m = i := by omega
    rw [← this]; exact hm
  · intro h
    exact ⟨(i : Int), List.mem_map.2 ⟨i, h, rfl⟩, by simp⟩
/-- the words of the set that a text names -/
def wordsT (n : Nat) (ms : List Nat) : List Nat := Kb.mkWords n (memB (ms.map fun m : Nat => (m : Int)))
theorem members_words {mx n : Nat} {ms : List Nat} (h1 : asc mx (-1) ms) (h2 : lastT (-1) ms < (n : Int)) : Kb.membersTo (Kb.bitAt (wordsT n ms)) n = ms := by
  refine members_of h1 h2 _ fun i => ?_
  unfold wordsT
  rw [Kb.bitAt_mkWords, Bool.and_eq_true, decide_eq_true_eq, mem_cast]
  constructor
  · exact fun h => h.2
  · intro h
    have := (asc_mem _ _ h1).2 i h
    exact ⟨by omega, h⟩
theorem in_cast {mx n : Nat} {ms : List Nat} (h1 : asc mx (-1) ms) (h2 : lastT (-1) ms < (n : Int)) : inB n (ms.map fun m : Nat => (m : Int)) = true := by
  unfold inB
  rw [List.all_eq_true]
  intro z hz
  obtain ⟨m, hm, rfl⟩ := List.mem_map.1 hz
  have := (asc_mem _ _ h1).2 m hm
  simp; omega
/-- what the reference reads the package reads too -/
theorem par_some {n : Nat} {ms : List Nat} {t : List UInt8} (h : pR 4096 t = some (n, ms)) :
    ascA (-1) (Lib.trimPrefix (Lib.cut t [125, 47]).1 [123]) = some (ms.map fun m : Nat => (m : Int)) ∧ Lib.atoiAll (Lib.cut t [125, 47]).2.1 = .ok (n : Int) ∧ n ≤ 4096 ∧ inB n (ms.map fun m : Nat => (m : Int)) = true ∧ Kb.membersTo (Kb.bitAt (wordsT n ms)) n = ms ∧ t = txt n ms := by
  obtain ⟨rfl, h2, h3, h4⟩ := pR_some h
  rw [cut_txt, trim_txt]
  exact ⟨ascA_txt (mx := 4096) (by decide) h2, atoi_dec (by omega), h3, in_cast h2 h4, members_words h2 h4, rfl⟩
theorem par_txt {n : Nat} (f : Nat → Bool) (hn : n ≤ 4096) : pR 4096 (txt n (Kb.membersTo f n)) = some (n, Kb.membersTo f n) :=
  pR_txt (members_asc (mx := 4096) f n (by omega)).1 hn (members_asc (mx := 4096) f n (by omega)).2

theorem numR_pos {mx n k : Nat} {l : List UInt8} (h : numR mx l = some (n, k)) : 0 < k ∧ k ≤ l.length := by
  unfold numR at h
  split at h
  · cases h
  · rename_i hb
    injection h with h
    injection h with h1 h2
    simp only [Bool.or_eq_true, List.isEmpty_iff, not_or] at hb
    have h3 := List.length_pos_iff.2 hb.1.1
    have h4 : (l.takeWhile digC).length ≤ l.length := (List.takeWhile_prefix digC).length_le
    omega
theorem pL_more {mx : Nat} : ∀ (f g : Nat) (first : Bool) (last : Int) (l : List UInt8), l.length < f → l.length < g → pL mx f first last l = pL mx g first last l := by
  intro f
  induction f with
  | zero => intro g first last l h; omega
  | succ f ih =>
    intro g first last l hf hg
    cases g with
    | zero => omega
    | succ g =>
      cases l with
      | nil => rfl
      | cons c l =>
        unfold pL
        by_cases hc : c = 125
        · rw [if_pos hc, if_pos hc]
        · rw [if_neg hc, if_neg hc]
          have hlen : ∀ l2, (if first then some (c :: l) else if c = 44 ∧ l.head? = some 32 then some (l.drop 1) else none) = some l2 → l2.length ≤ l.length + 1 := by
            intro l2 e
            cases first with
            | true => injection e with e; rw [← e]; simp
            | false =>
              rw [if_neg (by decide)] at e
              split at e
              · injection e with e; rw [← e, List.length_drop]; omega
              · cases e
          cases hq : (if first then some (c :: l) else if c = 44 ∧ l.head? = some 32 then some (l.drop 1) else none) with
          | none => rfl
          | some l2 =>
            dsimp only
            have h2 := hlen l2 hq
            cases hn : numR mx l2 with
            | none => rfl
            | some p =>
              obtain ⟨n, k⟩ := p
              dsimp only
              have h3 := numR_pos hn
              have h4 : (c :: l).length = l.length + 1 := rfl
              rw [ih g false (n : Int) (l2.drop k) (by rw [List.length_drop]; omega) (by rw [List.length_drop]; omega)]
/-- the reference's loop from what is left -/
def pA (first : Bool) (last : Int) (l : List UInt8) : Option (List Nat × List UInt8) := pL 4096 (l.length + 1) first last l
theorem pA_nil (first : Bool) (last : Int) : pA first last [] = some ([], []) := rfl
theorem pA_end {first : Bool} {last : Int} {c : UInt8} {l : List UInt8} (h : c = 125) : pA first last (c :: l) = some ([], c :: l) := by
  unfold pA pL
  rw [if_pos h]
theorem pA_sep {last : Int} {c : UInt8} {l : List UInt8} (hc : c ≠ 125) (h : ¬ (c = 44 ∧ l.head? = some 32)) : pA false last (c :: l) = none := by
  unfold pA pL
  rw [if_neg hc, if_neg (by decide), if_neg h]
/-- with a number ahead: l2 is what stands behind the comma -/
def SepOf (first : Bool) (c : UInt8) (l l2 : List UInt8) : Prop := (first = true ∧ l2 = c :: l) ∨ (first = false ∧ c = 44 ∧ l = 32 :: l2)
theorem SepOf.eq {first : Bool} {c : UInt8} {l l2 : List UInt8} (h : SepOf first c l l2) : (if first then some (c :: l) else if c = 44 ∧ l.head? = some 32 then some (l.drop 1) else none) = some l2 := by
  rcases h with ⟨rfl, rfl⟩ | ⟨rfl, rfl, rfl⟩
  · rfl
  · rfl
theorem pA_none {first : Bool} {last : Int} {c : UInt8} {l l2 : List UInt8} (hc : c ≠ 125) (h : SepOf first c l l2) (hn : numR 4096 l2 = none) : pA first last (c :: l) = none := by
  unfold pA pL
  rw [if_neg hc, h.eq]
  dsimp only
  rw [hn]
theorem pA_low {first : Bool} {last : Int} {c : UInt8} {l l2 : List UInt8} {n k : Nat} (hc : c ≠ 125) (h : SepOf first c l l2) (hn : numR 4096 l2 = some (n, k)) (hl : (n : Int) ≤ last) : pA first last (c :: l) = none := by
  unfold pA pL
  rw [if_neg hc, h.eq]
  dsimp only
  rw [hn]
  dsimp only
  rw [if_pos hl]
theorem pA_ok {first : Bool} {last : Int} {c : UInt8} {l l2 : List UInt8} {n k : Nat} (hc : c ≠ 125) (h : SepOf first c l l2) (hn : numR 4096 l2 = some (n, k)) (hl : ¬ (n : Int) ≤ last) : pA first last (c :: l) = (pA false (n : Int) (l2.drop k)).map fun p => (n :: p.1, p.2) := by
  have h3 := numR_pos hn
  have h2 : l2.length ≤ l.length + 1 := by
    rcases h with ⟨_, rfl⟩ | ⟨_, _, rfl⟩ <;> simp <;> omega
  have e : pA false (n : Int) (l2.drop k) = pL 4096 (c :: l).length false (n : Int) (l2.drop k) := by
    have h4 : (c :: l).length = l.length + 1 := rfl
    exact pL_more _ _ _ _ _ (by omega) (by rw [List.length_drop]; omega)
  rw [e]
  unfold pA
  show pL 4096 ((c :: l).length + 1) first last (c :: l) = _
  conv => lhs; unfold pL
  rw [if_neg hc, h.eq]
  dsimp only
  rw [hn]
  dsimp only
  rw [if_neg hl]
/-- the reference's Parse by its loop -/
theorem pR_bad0 {t : List UInt8} (h : t.head? ≠ some 123) : pR 4096 t = none := by
  unfold pR
  cases t with
  | nil => rfl
  | cons c l =>
    split
    · rename_i l' e; injection e with e1 e2; exact absurd (by rw [e1]; rfl) h
    · rfl
theorem pR_loop (l : List UInt8) : pR 4096 (123 :: l) = match pA true (-1) l with
    | some (ms, 125 :: 47 :: l2) => (match numR 4096 l2 with
      | some (n, k) => if k = l2.length ∧ lastT (-1) ms < (n : Int) then some (n, ms) else none
      | none => none)
    | _ => none := rfl
end Go.Proofs.YtckenemkfegopaaDoor.Kt
