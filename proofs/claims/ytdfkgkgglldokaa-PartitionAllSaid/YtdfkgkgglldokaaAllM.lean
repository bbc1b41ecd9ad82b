/- All partitions of few elements: plain lists. No Go in sight. -/
import Derived.Test.YtdfkgkgglldokaaSizes
namespace Go.Proofs.Ytdfkgkgglldokaa.Kp
set_option linter.unusedVariables false

/-- numbers without sign as numbers -/
def zN (ws : List Nat) : List Int := ws.map Int.ofNat
theorem zN_length (ws : List Nat) : (zN ws).length = ws.length := by simp [zN]
theorem lab_zN (ws : List Nat) (i : Nat) : lab (zN ws) i = ((ws.getD i 0 : Nat) : Int) := by
  unfold lab zN
  rw [List.getD_eq_getElem?_getD, List.getD_eq_getElem?_getD, List.getElem?_map]
  cases ws[i]? <;> rfl
theorem zN_inj {a b : List Nat} (h : zN a = zN b) : a = b := by
  induction a generalizing b with
  | nil => cases b with
    | nil => rfl
    | cons y s => exact absurd h (by simp [zN])
  | cons x r ih => cases b with
    | nil => exact absurd h (by simp [zN])
    | cons y s =>
      simp only [zN, List.map_cons, List.cons.injEq] at h
      rw [ih h.2, Int.ofNat.inj h.1]

/-- how many classes, after the first m -/
def up (m : Nat) : List Nat → Nat
  | [] => m
  | x :: r => up (if x = m then m + 1 else m) r
/-- does every element begin the next class at most? -/
def rgs (m : Nat) : List Nat → Bool
  | [] => true
  | x :: r => Nat.ble x m && rgs (if x = m then m + 1 else m) r

theorem up_snoc (ws : List Nat) (x m : Nat) : up m (ws ++ [x]) = if x = up m ws then up m ws + 1 else up m ws := by
  induction ws generalizing m with
  | nil => rfl
  | cons y r ih => exact ih _
theorem rgs_snoc (ws : List Nat) (x m : Nat) : rgs m (ws ++ [x]) = (rgs m ws && Nat.ble x (up m ws)) := by
  induction ws generalizing m with
  | nil => simp [rgs, up]
  | cons y r ih =>
    show (Nat.ble y m && rgs _ (r ++ [x])) = (Nat.ble y m && rgs _ r && Nat.ble x (up _ r))
    rw [ih, Bool.and_assoc]
theorem vt_take (ws : List Nat) : ∀ k, k ≤ ws.length → vt (lab (zN ws)) k = if rgs 0 (ws.take k) = true then some (up 0 (ws.take k)) else none := by
  intro k
  induction k with
  | zero => intro _; rfl
  | succ k ih =>
    intro hk
    have e : ws.take (k + 1) = ws.take k ++ [ws.getD k 0] := by
      rw [List.take_add_one, List.getD_eq_getElem?_getD, List.getElem?_eq_getElem (by omega)]; rfl
    unfold vt
    rw [ih (by omega), e, rgs_snoc, up_snoc, lab_zN]
    generalize ws.getD k 0 = x
    generalize up 0 (ws.take k) = m
    cases rgs 0 (ws.take k) with
    | false => rfl
    | true =>
      simp only [if_true, Bool.true_and]
      by_cases h : x ≤ m
      · rw [if_pos ⟨by omega, by omega⟩, if_pos (show Nat.ble x m = true by rw [Nat.ble_eq]; exact h)]
        by_cases h2 : x = m
        · rw [if_pos (show (x : Int) = (m : Int) by omega), if_pos h2]
        · rw [if_neg (show ¬ (x : Int) = (m : Int) by omega), if_neg h2]
      · rw [if_neg (by omega), if_neg (show ¬ Nat.ble x m = true by rw [Nat.ble_eq]; exact h)]
theorem vB_zN (ws : List Nat) : vB (zN ws) = rgs 0 ws := by
  unfold vB
  rw [zN_length, vt_take ws _ (Nat.le_refl _), List.take_length]
  cases rgs 0 ws <;> rfl
theorem cnt0_zN {ws : List Nat} (h : rgs 0 ws = true) : cnt0 (zN ws) = up 0 ws := by
  have hv := vt_take ws _ (Nat.le_refl _)
  rw [List.take_length, if_pos h] at hv
  unfold cnt0 cntL
  rw [vB_zN, h, if_pos rfl, zN_length]
  exact (vt_some hv).2.symm
theorem rgs_take (ws : List Nat) (k : Nat) : ∀ m, rgs m ws = true → rgs m (ws.take k) = true := by
  induction ws generalizing k with
  | nil => intro m h; rw [List.take_nil]; exact h
  | cons x r ih =>
    intro m h
    cases k with
    | zero => rfl
    | succ k =>
      rw [List.take_succ_cons]
      unfold rgs at h ⊢
      rw [Bool.and_eq_true] at h ⊢
      exact ⟨h.1, ih k _ h.2⟩
/-- a valid list has no sign -/
theorem zN_of {zs : List Int} (h : vB zs = true) : ∃ ws, zs = zN ws := by
  refine ⟨zs.map Int.toNat, ?_⟩
  unfold zN
  rw [List.map_map]
  conv => lhs; rw [← List.map_id zs]
  apply List.map_congr_left
  intro x hx
  obtain ⟨i, hi, rfl⟩ := List.mem_iff_getElem.1 hx
  have h1 := vB_iff.1 h i hi
  unfold lab at h1
  rw [List.getD_eq_getElem?_getD, List.getElem?_eq_getElem hi] at h1
  simp only [Option.getD_some] at h1
  show zs[i] = ((zs[i].toNat : Nat) : Int)
  omega

/-- every list of k numbers that goes on after m classes -/
def gen : Nat → Nat → List (List Nat)
  | 0, _ => [[]]
  | k + 1, m => ((List.range m).flatMap fun c => (gen k m).map fun r => c :: r) ++ (gen k (m + 1)).map fun r => m :: r
theorem mem_gen (k m : Nat) (ws : List Nat) : ws ∈ gen k m ↔ ws.length = k ∧ rgs m ws = true := by
  induction k generalizing m ws with
  | zero =>
    unfold gen
    rw [List.mem_singleton]
    constructor
    · rintro rfl; exact ⟨rfl, rfl⟩
    · rintro ⟨h, _⟩; exact List.eq_nil_of_length_eq_zero h
  | succ k ih =>
    unfold gen
    rw [List.mem_append, List.mem_flatMap]
    constructor
    · rintro (⟨c, hc, h⟩ | h)
      · obtain ⟨r, hr, rfl⟩ := List.mem_map.1 h
        have h1 := (ih _ _).1 hr
        have h2 := List.mem_range.1 hc
        refine ⟨by rw [List.length_cons, h1.1], ?_⟩
        unfold rgs
        rw [Bool.and_eq_true, Nat.ble_eq, if_neg (by omega)]
        exact ⟨by omega, h1.2⟩
      · obtain ⟨r, hr, rfl⟩ := List.mem_map.1 h
        have h1 := (ih _ _).1 hr
        refine ⟨by rw [List.length_cons, h1.1], ?_⟩
        unfold rgs
        rw [Bool.and_eq_true, Nat.ble_eq, if_pos rfl]
        exact ⟨Nat.le_refl _, h1.2⟩
    · rintro ⟨hl, hr⟩
      cases ws with
      | nil => exact absurd hl (by simp)
      | cons x r =>
        unfold rgs at hr
        rw [Bool.and_eq_true, Nat.ble_eq] at hr
        rw [List.length_cons] at hl
        by_cases e : x = m
        · rw [if_pos e] at hr
          exact Or.inr (List.mem_map.2 ⟨r, (ih _ _).2 ⟨by omega, hr.2⟩, by rw [e]⟩)
        · rw [if_neg e] at hr
          exact Or.inl ⟨x, List.mem_range.2 (by omega), List.mem_map.2 ⟨r, (ih _ _).2 ⟨by omega, hr.2⟩, rfl⟩⟩

/-- the list that follows, when what may grow lies at i or before -/
def sucAt (ws : List Nat) : Nat → Option (List Nat)
  | 0 => none
  | i + 1 => if Nat.blt (ws.getD (i + 1) 0) (up 0 (ws.take (i + 1))) = true then some (ws.take (i + 1) ++ (ws.getD (i + 1) 0 + 1) :: List.replicate (ws.length - (i + 2)) 0) else sucAt ws i
def suc (ws : List Nat) : Option (List Nat) := sucAt ws (ws.length - 1)

def eqN : List Nat → List Nat → Bool
  | [], [] => true
  | x :: r, y :: s => Nat.beq x y && eqN r s
  | _, _ => false
theorem eqN_eq {a b : List Nat} (h : eqN a b = true) : a = b := by
  induction a generalizing b with
  | nil => cases b with
    | nil => rfl
    | cons y s => exact absurd h (by simp [eqN])
  | cons x r ih => cases b with
    | nil => exact absurd h (by simp [eqN])
    | cons y s =>
      unfold eqN at h
      rw [Bool.and_eq_true] at h
      rw [ih h.2, Nat.eq_of_beq_eq_true h.1]
def isSuc (o : Option (List Nat)) (q : List Nat) : Bool := match o with | none => false | some p => eqN p q
theorem isSuc_eq {o : Option (List Nat)} {q : List Nat} (h : isSuc o q = true) : o = some q := by
  cases o with
  | none => exact absurd h (by simp [isSuc])
  | some p => rw [eqN_eq (a := p) (b := q) h]
/-- before, in the order of dictionaries, and as long -/
def ltN : List Nat → List Nat → Bool
  | x :: r, y :: s => Nat.blt x y || (Nat.beq x y && ltN r s)
  | _, _ => false
/-- each follows the one before it, and the last has none -/
def chk : List (List Nat) → Bool
  | [] => false
  | [p] => (suc p).isNone
  | p :: q :: r => isSuc (suc p) q && (ltN p q && chk (q :: r))
theorem chk_step {L : List (List Nat)} (h : chk L = true) : ∀ k, k + 1 < L.length → suc (L.getD k []) = some (L.getD (k + 1) []) ∧ ltN (L.getD k []) (L.getD (k + 1) []) = true := by
  induction L with
  | nil => intro k hk; exact absurd hk (by simp)
  | cons p L ih =>
    cases L with
    | nil => intro k hk; exact absurd hk (by simp)
    | cons q r =>
      unfold chk at h
      rw [Bool.and_eq_true, Bool.and_eq_true] at h
      intro k hk
      cases k with
      | zero => exact ⟨isSuc_eq h.1, h.2.1⟩
      | succ k => exact ih h.2.2 k (by simpa using hk)
theorem chk_last {L : List (List Nat)} (h : chk L = true) : 0 < L.length ∧ suc (L.getD (L.length - 1) []) = none := by
  induction L with
  | nil => exact absurd h (by decide)
  | cons p L ih =>
    cases L with
    | nil => exact ⟨by simp, Option.isNone_iff_eq_none.1 h⟩
    | cons q r =>
      unfold chk at h
      rw [Bool.and_eq_true, Bool.and_eq_true] at h
      exact ⟨by simp, (ih h.2.2).2⟩

/-- how many there are -/
def bell : Nat → Nat
  | 0 => 1 | 1 => 1 | 2 => 2 | 3 => 5 | 4 => 15 | 5 => 52 | 6 => 203 | 7 => 877 | 8 => 4140 | _ => 0
/-- what is reckoned -/
def okAll (n : Nat) : Bool := chk (gen n 0) && (eqN ((gen n 0).getD 0 []) (List.replicate n 0) && Nat.beq (gen n 0).length (bell n))
set_option maxRecDepth 100000 in
theorem okAll8 : okAll 8 = true := by decide +kernel
set_option maxRecDepth 100000 in
theorem okAll_le {n : Nat} (hn : n ≤ 8) : okAll n = true := by
  rcases Nat.lt_or_ge n 8 with h | h
  · have : ∀ m, m < 8 → okAll m = true := by decide +kernel
    exact this n h
  · obtain rfl : n = 8 := by omega
    exact okAll8
theorem gen_chk {n : Nat} (hn : n ≤ 8) : chk (gen n 0) = true := by
  have h := okAll_le hn
  unfold okAll at h
  rw [Bool.and_eq_true] at h
  exact h.1
theorem gen_first {n : Nat} (hn : n ≤ 8) : (gen n 0).getD 0 [] = List.replicate n 0 := by
  have h := okAll_le hn
  unfold okAll at h
  rw [Bool.and_eq_true, Bool.and_eq_true] at h
  exact eqN_eq h.2.1
theorem gen_length {n : Nat} (hn : n ≤ 8) : (gen n 0).length = bell n := by
  have h := okAll_le hn
  unfold okAll at h
  rw [Bool.and_eq_true, Bool.and_eq_true] at h
  exact Nat.eq_of_beq_eq_true h.2.2
theorem gen_at {n k : Nat} (hk : k < (gen n 0).length) : ((gen n 0).getD k []).length = n ∧ rgs 0 ((gen n 0).getD k []) = true := by
  rw [List.getD_eq_getElem?_getD, List.getElem?_eq_getElem hk]
  exact (mem_gen n 0 _).1 (List.getElem_mem hk)
theorem gen_has {n : Nat} (zs : List Int) : (∃ k, k < (gen n 0).length ∧ zN ((gen n 0).getD k []) = zs) ↔ zs.length = n ∧ vB zs = true := by
  constructor
  · rintro ⟨k, hk, rfl⟩
    have h := gen_at hk
    exact ⟨by rw [zN_length, h.1], by rw [vB_zN]; exact h.2⟩
  · rintro ⟨hl, hv⟩
    obtain ⟨ws, rfl⟩ := zN_of hv
    rw [zN_length] at hl
    rw [vB_zN] at hv
    obtain ⟨k, hk, e⟩ := List.mem_iff_getElem.1 ((mem_gen n 0 ws).2 ⟨hl, hv⟩)
    exact ⟨k, hk, by rw [List.getD_eq_getElem?_getD, List.getElem?_eq_getElem hk]; simp only [Option.getD_some]; rw [e]⟩
/-- a number of few classes is small -/
theorem rgs_bd (ws : List Nat) : ∀ m, rgs m ws = true → ∀ x ∈ ws, x ≤ m + ws.length := by
  induction ws with
  | nil => intro m _ x hx; cases hx
  | cons y r ih =>
    intro m h x hx
    unfold rgs at h
    rw [Bool.and_eq_true, Nat.ble_eq] at h
    rcases List.mem_cons.1 hx with rfl | hx
    · rw [List.length_cons]; omega
    · have := ih _ h.2 x hx
      rw [List.length_cons]
      split at this <;> omega
end Go.Proofs.Ytdfkgkgglldokaa.Kp
