/- Plain laws of the tokens of a text, as a list of bytes: no Go in sight. -/
namespace Go.Proofs.YtlifnabeilnblaaGreatDoor.Kx
set_option linter.unusedVariables false

def letC (c : UInt8) : Bool := decide (97 ≤ c.toNat) && decide (c.toNat ≤ 122)
def digC (c : UInt8) : Bool := decide (48 ≤ c.toNat) && decide (c.toNat ≤ 57)
def alC (c : UInt8) : Bool := letC c || digC c
def blC (c : UInt8) : Bool := c == 32 || c == 9
/-- what is left behind white space and comments -/
def skipL : Bool → List UInt8 → List UInt8
  | _, [] => []
  | cm, c :: l => if c == 10 then skipL false l else if c == 35 then skipL true l else if blC c then skipL cm l else if cm then skipL true l else c :: l
def dbl : List (UInt8 × UInt8) := [(46, 46), (61, 61), (33, 61), (60, 61), (62, 61), (38, 38), (124, 124)]
def sgl : List UInt8 := [59, 58, 44, 46, 61, 43, 45, 42, 47, 37, 60, 62, 33, 63, 40, 41, 91, 93, 123, 125]
/-- how long is the sign at the beginning? -/
def sgN : List UInt8 → Nat
  | [] => 0
  | [a] => if sgl.contains a then 1 else 0
  | a :: b :: _ => if dbl.contains (a, b) then 2 else if sgl.contains a then 1 else 0
/-- the reserved words -/
def resW : List (List UInt8) := [
  [116,121,112,101],[115,101,99,114,101,116],[112,117,98,108,105,99],[114,97,110,100,111,109],[118,97,114],[104,97,116,99,104],[102,117,110,99],[114,101,116,117,114,110],[98,101,103,105,110],[101,110,100],
  [98,111,111,108],[105,110,116],[97,114,114,97,121],[111,102],[114,101,99,111,114,100],
  [116,114,117,101],[102,97,108,115,101],[109,105,110],[109,97,120],
  [99,97,108,108],[114,101,108,101,97,115,101],[111,117,116,112,117,116],[119,97,105,116],[105,102],[101,108,115,101],[119,104,105,108,101],[108,105,109,105,116],[102,111,114],[116,111],[115,101,116,116,108,101]]
def resB (w : List UInt8) : Bool := resW.contains w
/-- the value of digits -/
def valN (l : List UInt8) : Nat := l.foldl (fun n c => n * 10 + (c.toNat - 48)) 0
/-- is a text of letters and digits an integer? -/
def numC (w : List UInt8) : Int :=
  if decide (1 < w.length) && w.head? == some 48 then 6
  else if w.all digC then (if 1048576 < valN w then 3 else 0) else 6
/-- a token: kind, length, code -/
def tk : List UInt8 → Int × Nat × Int
  | [] => (3, 0, 6)
  | c :: l =>
    if letC c then
      (if resB ((c :: l).takeWhile alC) then (2, ((c :: l).takeWhile alC).length, 0)
       else (0, ((c :: l).takeWhile alC).length, if 12 < ((c :: l).takeWhile alC).length then 7 else 0))
    else if digC c then (1, ((c :: l).takeWhile alC).length, numC ((c :: l).takeWhile alC))
    else (3, sgN (c :: l), if sgN (c :: l) = 0 then 6 else 0)
/-- a token of a text -/
structure Tk where
  kind : Int
  text : List UInt8
  pos : Nat
  deriving DecidableEq
/-- the tokens of what is left, which begins with one; N: the length of the whole text -/
def lexG (N : Nat) : Nat → List UInt8 → List Tk × Option (Nat × Int)
  | 0, _ => ([], none)
  | _ + 1, [] => ([], none)
  | f + 1, c :: l =>
    match tk (c :: l) with
    | (k, n, e) =>
      if e = 0 then
        ((⟨k, (c :: l).take n, N - (c :: l).length⟩ : Tk) :: (lexG N f (skipL false ((c :: l).drop n))).1, (lexG N f (skipL false ((c :: l).drop n))).2)
      else ([], some (N - (c :: l).length, e))
def lexR (N : Nat) (l : List UInt8) : List Tk × Option (Nat × Int) := lexG N (l.length + 1) l
def lexA (l : List UInt8) : List Tk × Option (Nat × Int) := lexR l.length (skipL false l)

/-! ### skipping -/
theorem skip_cons (cm : Bool) (c : UInt8) (l : List UInt8) : skipL cm (c :: l) = if c == 10 then skipL false l else if c == 35 then skipL true l else if blC c then skipL cm l else if cm then skipL true l else c :: l := rfl
theorem skip_len (cm : Bool) (l : List UInt8) : (skipL cm l).length ≤ l.length := by
  induction l generalizing cm with
  | nil => exact Nat.le_refl _
  | cons c l ih =>
    unfold skipL
    (repeat' split) <;> first | exact Nat.le_succ_of_le (ih _) | exact Nat.le_refl _
/-- the first byte of what is left is neither white space nor the beginning of a comment -/
def hdOk : List UInt8 → Prop
  | [] => True
  | c :: _ => c ≠ 10 ∧ c ≠ 35 ∧ blC c = false
theorem skip_hd (cm : Bool) (l : List UInt8) : hdOk (skipL cm l) := by
  induction l generalizing cm with
  | nil => exact trivial
  | cons c l ih =>
    unfold skipL
    (repeat' split) <;> first | exact ih _ | skip
    rename_i h1 h2 h3 h4
    exact ⟨by simpa using h1, by simpa using h2, by simpa using h3⟩
theorem skip_id {l : List UInt8} (h : hdOk l) : skipL false l = l := by
  cases l with
  | nil => rfl
  | cons c l =>
    obtain ⟨h1, h2, h3⟩ := h
    unfold skipL
    rw [if_neg (by simpa using h1), if_neg (by simpa using h2), h3]; rfl
theorem skip_suffix (cm : Bool) (l : List UInt8) : skipL cm l <:+ l := by
  induction l generalizing cm with
  | nil => exact List.suffix_refl _
  | cons c l ih =>
    unfold skipL
    (repeat' split) <;> first | exact (ih _).trans (List.suffix_cons _ _) | exact List.suffix_refl _
theorem skip_drop (cm : Bool) (l : List UInt8) : skipL cm l = l.drop (l.length - (skipL cm l).length) := by
  obtain ⟨p, hp⟩ := skip_suffix cm l
  have : p.length = l.length - (skipL cm l).length := by
    have := congrArg List.length hp
    rw [List.length_append] at this
    omega
  rw [← this]
  conv => rhs; rw [← hp]
  rw [List.drop_left]
/-- a comment ends at the line feed -/
theorem skip_comment (l : List UInt8) : skipL true l = skipL false (l.dropWhile (· != 10)) := by
  induction l with
  | nil => rfl
  | cons c l ih =>
    by_cases h : c = 10
    · subst h; rfl
    · have e : (c :: l).dropWhile (· != 10) = l.dropWhile (· != 10) := by
        rw [List.dropWhile_cons, if_pos (by simpa using h)]
      rw [e, ← ih]
      rw [skip_cons, if_neg (by simpa using h)]
      (repeat' split) <;> first | rfl | exact absurd rfl ‹_›
/-- what stands behind a line feed is skipped by itself -/
theorem skip_app_nl (cm : Bool) (l t : List UInt8) : skipL cm (l ++ 10 :: t) = if skipL cm l = [] then skipL false t else skipL cm l ++ 10 :: t := by
  induction l generalizing cm with
  | nil => exact (if_pos rfl).symm
  | cons c l ih =>
    rw [List.cons_append, skip_cons, skip_cons]
    split
    · exact ih _
    split
    · exact ih _
    split
    · exact ih _
    split
    · exact ih _
    · rw [if_neg (by simp)]; rfl

/-! ### tokens -/
theorem tk_let {c : UInt8} {l : List UInt8} (h : letC c = true) : tk (c :: l) = if resB ((c :: l).takeWhile alC) then (2, ((c :: l).takeWhile alC).length, 0) else (0, ((c :: l).takeWhile alC).length, if 12 < ((c :: l).takeWhile alC).length then 7 else 0) := if_pos h
theorem tk_dig {c : UInt8} {l : List UInt8} (h : letC c = false) (h2 : digC c = true) : tk (c :: l) = (1, ((c :: l).takeWhile alC).length, numC ((c :: l).takeWhile alC)) := (if_neg (by rw [h]; decide)).trans (if_pos h2)
theorem tk_sig {c : UInt8} {l : List UInt8} (h : letC c = false) (h2 : digC c = false) : tk (c :: l) = (3, sgN (c :: l), if sgN (c :: l) = 0 then 6 else 0) := (if_neg (by rw [h]; decide)).trans (if_neg (by rw [h2]; decide))
theorem run_pos {c : UInt8} {l : List UInt8} (h : alC c = true) : 0 < ((c :: l).takeWhile alC).length := by rw [List.takeWhile_cons, if_pos h]; simp
theorem run_le (l : List UInt8) : (l.takeWhile alC).length ≤ l.length := (List.takeWhile_sublist _).length_le
theorem sg_le (l : List UInt8) : sgN l ≤ l.length := by
  match l with
  | [] => exact Nat.le_refl _
  | [a] => show (if sgl.contains a then 1 else 0) ≤ 1; split <;> omega
  | a :: b :: l => show (if dbl.contains (a, b) then 2 else if sgl.contains a then 1 else 0) ≤ l.length + 1 + 1; (repeat' split) <;> omega
theorem tk_cases (l : List UInt8) : l = [] ∨ ∃ c r, l = c :: r ∧ ((letC c = true) ∨ (letC c = false ∧ digC c = true) ∨ (letC c = false ∧ digC c = false)) := by
  cases l with
  | nil => exact .inl rfl
  | cons c r =>
    refine .inr ⟨c, r, rfl, ?_⟩
    cases letC c <;> cases digC c <;> simp
theorem tk_pos {l : List UInt8} (h : (tk l).2.2 = 0) : 0 < (tk l).2.1 ∧ (tk l).2.1 ≤ l.length := by
  rcases tk_cases l with rfl | ⟨c, r, rfl, h1 | ⟨h1, h2⟩ | ⟨h1, h2⟩⟩
  · exact absurd h (by decide)
  · have hp := run_pos (c := c) (l := r) (by unfold alC; rw [h1]; rfl)
    have hw := run_le (c :: r)
    rw [tk_let h1]
    split <;> exact ⟨hp, hw⟩
  · have hp := run_pos (c := c) (l := r) (by unfold alC; rw [h2]; simp)
    have hw := run_le (c :: r)
    rw [tk_dig h1 h2]; exact ⟨hp, hw⟩
  · rw [tk_sig h1 h2] at h ⊢
    have := sg_le (c :: r)
    by_cases h3 : sgN (c :: r) = 0
    · rw [h3] at h; exact absurd h (by decide)
    · exact ⟨by show 0 < sgN (c :: r); omega, this⟩
theorem num_code (w : List UInt8) : numC w = 0 ∨ numC w = 3 ∨ numC w = 6 := by unfold numC; (repeat' split) <;> simp
theorem tk_code (l : List UInt8) : (tk l).2.2 = 0 ∨ (tk l).2.2 = 3 ∨ (tk l).2.2 = 6 ∨ (tk l).2.2 = 7 := by
  rcases tk_cases l with rfl | ⟨c, r, rfl, h1 | ⟨h1, h2⟩ | ⟨h1, h2⟩⟩
  · exact .inr (.inr (.inl rfl))
  · rw [tk_let h1]
    (repeat' split) <;> simp
  · rw [tk_dig h1 h2]
    rcases num_code ((c :: r).takeWhile alC) with e | e | e <;> simp [e]
  · rw [tk_sig h1 h2]
    dsimp only
    split <;> simp
theorem lexG_more (N : Nat) : ∀ f g l, l.length < f → l.length < g → lexG N f l = lexG N g l := by
  intro f
  induction f with
  | zero => intro g l h; omega
  | succ f ih =>
    intro g l hf hg
    cases g with
    | zero => omega
    | succ g =>
      cases l with
      | nil => rfl
      | cons c l =>
        unfold lexG
        have hp := tk_pos (l := c :: l)
        generalize tk (c :: l) = q at hp
        obtain ⟨k, n, e⟩ := q
        dsimp only at hp ⊢
        by_cases he : e = 0
        · have h1 := hp he
          have h2 := skip_len false ((c :: l).drop n)
          rw [List.length_drop] at h2
          have h3 : (skipL false ((c :: l).drop n)).length < f := by simp only [List.length_cons] at *; omega
          have h4 : (skipL false ((c :: l).drop n)).length < g := by simp only [List.length_cons] at *; omega
          rw [if_pos he, if_pos he, ih g _ h3 h4]
        · rw [if_neg he, if_neg he]
theorem lexR_nil (N : Nat) : lexR N [] = ([], none) := rfl
theorem lexR_bad {N : Nat} {l : List UInt8} (h0 : l ≠ []) (h : (tk l).2.2 ≠ 0) : lexR N l = ([], some (N - l.length, (tk l).2.2)) := by
  cases l with
  | nil => exact absurd rfl h0
  | cons c l => unfold lexR lexG; exact if_neg h
theorem lexR_ok {N : Nat} {l : List UInt8} (h : (tk l).2.2 = 0) : lexR N l = ((⟨(tk l).1, l.take (tk l).2.1, N - l.length⟩ : Tk) :: (lexR N (skipL false (l.drop (tk l).2.1))).1, (lexR N (skipL false (l.drop (tk l).2.1))).2) := by
  cases l with
  | nil => exact absurd h (by decide)
  | cons c l =>
    have hp := tk_pos h
    have e : lexR N (skipL false ((c :: l).drop (tk (c :: l)).2.1)) = lexG N (c :: l).length (skipL false ((c :: l).drop (tk (c :: l)).2.1)) := by
      have h2 := skip_len false ((c :: l).drop (tk (c :: l)).2.1)
      rw [List.length_drop] at h2
      exact lexG_more N _ _ _ (by omega) (by omega)
    rw [e]
    unfold lexR
    show lexG N (l.length + 1 + 1) (c :: l) = _
    conv => lhs; unfold lexG
    exact if_pos h
end Go.Proofs.YtlifnabeilnblaaGreatDoor.Kx
