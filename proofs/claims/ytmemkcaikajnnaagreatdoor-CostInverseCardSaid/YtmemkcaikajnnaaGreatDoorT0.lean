/- What Parse of package cost makes of a text. -/
import Derived.Test.YtmemkcaikajnnaaGreatDoorW1
import Derived.Lib.SplitLaws
import Derived.Lib.TrimByte
import Derived.Lib.AtoiAllCases
namespace Go.Proofs.YtmemkcaikajnnaaGreatDoor
set_option linter.unusedVariables false
namespace Kp
def low (c : UInt8) : Bool := decide (97 ≤ c.toNat) && decide (c.toNat ≤ 122)
def dig (c : UInt8) : Bool := decide (48 ≤ c.toNat) && decide (c.toNat ≤ 57)
def sp (c : UInt8) : Bool := c == 32
def valN (l : List UInt8) : Nat := l.foldl (fun n c => n * 10 + (c.toNat - 48)) 0
theorem val_snoc (l : List UInt8) (c : UInt8) : valN (l ++ [c]) = valN l * 10 + (c.toNat - 48) := by unfold valN; rw [List.foldl_append]; rfl
/-- is it a number without needless zeros? -/
def isNum (t : List UInt8) : Bool := t.all dig && (t == [48] || (!t.isEmpty && t.head? != some 48))
def ofR (p : UInt8 → Bool) (t : List UInt8) : Bool := t.all p && !t.isEmpty
def word (p : List UInt8) : List UInt8 := (Lib.cut p [32]).1
def num (p : List UInt8) : List UInt8 := Lib.trimLeftB (Lib.cut p [32]).2.1 32
/-- is it a part: letters, spaces, a number? -/
def pOk (p : List UInt8) : Bool := (Lib.cut p [32]).2.2 && ofR low (word p) && isNum (num p)
def names : List (List UInt8) := [[97, 115, 115, 105, 103, 110], [98, 114, 97, 110, 99, 104], [108, 111, 111, 112], [99, 97, 108, 108], [111, 117, 116, 112, 117, 116], [114, 101, 108, 101, 97, 115, 101], [108, 111, 97, 100], [105, 110, 100, 101, 120], [97, 114, 105, 116, 104], [109, 117, 108, 116, 105, 112, 108, 121], [100, 105, 118, 105, 100, 101], [99, 111, 109, 112, 97, 114, 101], [108, 111, 103, 105, 99]]
def idxF (w : List UInt8) : List (List UInt8) → Nat → Option Nat
  | [], _ => none
  | x :: l, i => if x = w then some i else idxF w l (i + 1)
def idx (w : List UInt8) : Option Nat := idxF w names 0
theorem idxF_drop (w : List UInt8) : ∀ (l : List (List UInt8)) (i k : Nat), (∀ j, j < k → l[j]? ≠ some w) → k ≤ l.length → idxF w l i = idxF w (l.drop k) (i + k) := by
  intro l
  induction l with
  | nil =>
    intro i k _ hk
    have h0 : k = 0 := by simpa using hk
    subst h0
    rfl
  | cons x l ih =>
    intro i k h hk
    cases k with
    | zero => rfl
    | succ k =>
      have h0 : x ≠ w := fun e => h 0 (by omega) (by rw [e]; rfl)
      show (if x = w then some i else idxF w l (i + 1)) = _
      rw [if_neg h0, ih (i + 1) k (fun j hj => h (j + 1) (by omega)) (by simpa using hk), show i + 1 + k = i + (k + 1) by omega]
      rfl
theorem idx_some {w : List UInt8} {k : Nat} (h : ∀ j, j < k → names[j]? ≠ some w) (hk : k < 13) (he : names[k]? = some w) : idx w = some k := by
  unfold idx
  have hl : k < names.length := hk
  rw [idxF_drop w names 0 k h (Nat.le_of_lt hl), List.drop_eq_getElem_cons hl]
  rw [List.getElem?_eq_getElem hl] at he
  injection he with he
  show (if names[k] = w then _ else _) = _
  rw [if_pos he, Nat.zero_add]
theorem idx_none {w : List UInt8} (h : ∀ j, j < 13 → names[j]? ≠ some w) : idx w = none := by
  unfold idx
  rw [idxF_drop w names 0 13 h (Nat.le_refl _)]
  rfl
def zeros : List Int := [0, 0, 0, 0, 0, 0, 0, 0, 0, 0, 0, 0, 0]
def falses : List Bool := [false, false, false, false, false, false, false, false, false, false, false, false, false]
/-- a part is read: the code, the entries, which of them are mentioned -/
def stepS (l : List Int) (m : List Bool) (p : List UInt8) : Int × List Int × List Bool :=
  if pOk p = false then (6, l, m) else match idx (word p) with
    | none => (7, l, m)
    | some i => if m.getD i false = true then (8, l, m) else if 100 < valN (num p) then (3, l, m) else (0, l.set i (valN (num p) : Int), m.set i true)
/-- all parts -/
def runS : List Int → List Bool → List (List UInt8) → Int × List Int
  | l, _, [] => (0, l)
  | l, m, p :: ps => if (stepS l m (Lib.trimB p 32)).1 = 0 then runS (stepS l m (Lib.trimB p 32)).2.1 (stepS l m (Lib.trimB p 32)).2.2 ps else ((stepS l m (Lib.trimB p 32)).1, zeros)
def parts (t : List UInt8) : List (List UInt8) := Lib.splitK [44] 0 (Lib.count t [44]) t
def parseS (t : List UInt8) : Int × List Int := if 8192 < t.length then (5, zeros) else if Lib.trimB t 32 = [] then (0, zeros) else runS zeros falses (parts t)
theorem stepS_len {l : List Int} {m : List Bool} {p : List UInt8} (hl : l.length = 13) (hm : m.length = 13) : (stepS l m p).2.1.length = 13 ∧ (stepS l m p).2.2.length = 13 := by
  unfold stepS
  split
  · exact ⟨hl, hm⟩
  · split
    · exact ⟨hl, hm⟩
    · split
      · exact ⟨hl, hm⟩
      · split
        · exact ⟨hl, hm⟩
        · exact ⟨by rw [List.length_set]; exact hl, by rw [List.length_set]; exact hm⟩
theorem runS_len : ∀ (ps : List (List UInt8)) (l : List Int) (m : List Bool), l.length = 13 → m.length = 13 → (runS l m ps).2.length = 13 := by
  intro ps
  induction ps with
  | nil => intro l m hl _; exact hl
  | cons p ps ih =>
    intro l m hl hm
    unfold runS
    split
    · exact ih _ _ (stepS_len hl hm).1 (stepS_len hl hm).2
    · rfl
theorem parseS_len (t : List UInt8) : (parseS t).2.length = 13 := by
  unfold parseS
  split
  · rfl
  · split
    · rfl
    · exact runS_len _ _ _ rfl rfl
/-- one byte is looked for -/
theorem index1 (c : UInt8) : ∀ t : List UInt8, (Lib.index t [c] = -1 ∧ ∀ x ∈ t, x ≠ c) ∨ ∃ k : Nat, Lib.index t [c] = k ∧ k < t.length ∧ t[k]? = some c ∧ ∀ j, j < k → t[j]? ≠ some c := by
  intro t
  induction t with
  | nil => exact .inl ⟨rfl, fun x hx => by cases hx⟩
  | cons x t ih =>
    by_cases hx : x = c
    · subst hx
      right
      refine ⟨0, ?_, by simp, rfl, fun j hj => absurd hj (Nat.not_lt_zero _)⟩
      show (if [x].isPrefixOf (x :: t) then (0 : Int) else _) = _
      rw [if_pos (by rw [List.isPrefixOf_cons_cons, beq_self_eq_true]; cases t <;> rfl)]; rfl
    · have hp : [c].isPrefixOf (x :: t) = false := by rw [List.isPrefixOf_cons_cons, beq_eq_false_iff_ne.2 (Ne.symm hx), Bool.false_and]
      have e : Lib.index (x :: t) [c] = if Lib.index t [c] == -1 then -1 else Lib.index t [c] + 1 := by
        show (if [c].isPrefixOf (x :: t) then (0 : Int) else _) = _
        rw [hp, if_neg (by decide)]
      rcases ih with ⟨h1, h2⟩ | ⟨k, h1, h2, h3, h4⟩
      · left
        refine ⟨by rw [e, h1]; rfl, fun y hy => ?_⟩
        rcases List.mem_cons.1 hy with rfl | hy
        · exact hx
        · exact h2 y hy
      · right
        refine ⟨k + 1, ?_, by rw [List.length_cons]; omega, h3, fun j hj => ?_⟩
        · rw [e, h1, if_neg (by rw [beq_iff_eq]; omega)]; omega
        · cases j with
          | zero => intro h; injection h with h; exact hx h
          | succ j => exact h4 j (by omega)
/-- the parts, one after another -/
theorem parts_no {t : List UInt8} (h : ∀ j : Nat, t[j]? ≠ some 44) : parts t = [t] := by
  rcases index1 44 t with ⟨h1, _⟩ | ⟨k, _, _, h3, _⟩
  · unfold parts; rw [Lib.count_miss h1]; rfl
  · exact absurd h3 (h k)
theorem parts_at {t : List UInt8} {k : Nat} (h : ∀ j, j < k → t[j]? ≠ some 44) (hk : t[k]? = some 44) : parts t = t.take k :: parts (t.drop (k + 1)) := by
  rcases index1 44 t with ⟨h1, h2⟩ | ⟨i, h1, h2, h3, h4⟩
  · exact absurd rfl (h2 44 (List.mem_of_getElem? hk))
  · obtain rfl : i = k := by
      rcases Nat.lt_trichotomy i k with g | g | g
      · exact absurd h3 (h i g)
      · exact g
      · exact absurd hk (h4 k g)
    unfold parts
    rw [Lib.count_hit (by simp) h1, Nat.add_comm 1]
    show (if Lib.index t [44] == -1 then [t] else t.take ((Lib.index t [44]).toNat + 0) :: Lib.splitK [44] 0 (Lib.count (t.drop (i + [(44 : UInt8)].length)) [44]) (t.drop ((Lib.index t [44]).toNat + [(44 : UInt8)].length))) = _
    rw [h1, if_neg (by rw [beq_iff_eq]; omega), Int.toNat_natCast]
    rfl
/-- a part in terms of what stands at its head -/
theorem cut32 (p : List UInt8) : (∃ x y, p = x ++ 32 :: y ∧ (∀ c ∈ x, c ≠ 32) ∧ Lib.cut p [32] = (x, y, true)) ∨ ((∀ c ∈ p, c ≠ 32) ∧ Lib.cut p [32] = (p, [], false)) := by
  rcases index1 32 p with ⟨h1, h2⟩ | ⟨k, h1, h2, h3, h4⟩
  · right
    refine ⟨h2, ?_⟩
    unfold Lib.cut; rw [h1, if_neg (by decide)]
  · left
    have hd : p.drop k = 32 :: p.drop (k + 1) := by
      rw [List.drop_eq_getElem_cons h2]
      congr 1
      rw [List.getElem?_eq_getElem h2] at h3
      injection h3
    refine ⟨p.take k, p.drop (k + 1), ?_, fun c hc => ?_, ?_⟩
    · rw [← hd, List.take_append_drop]
    · obtain ⟨j, hj, e⟩ := List.mem_iff_getElem.1 hc
      rw [List.length_take] at hj
      intro e2
      refine h4 j (by omega) ?_
      rw [List.getElem?_eq_getElem (by omega), ← e2, ← e, List.getElem_take]
    · unfold Lib.cut; rw [h1, if_pos (by omega), Int.toNat_natCast]; rfl
def hd (p : List UInt8) : List UInt8 := p.takeWhile low
def tl (p : List UInt8) : List UInt8 := p.dropWhile low
def nm (p : List UInt8) : List UInt8 := (tl p).dropWhile sp
theorem low32 : low 32 = false := by decide
theorem dw_len (f : UInt8 → Bool) (l : List UInt8) : (l.dropWhile f).length ≤ l.length := (List.dropWhile_sublist f).length_le
theorem dw_no {f : UInt8 → Bool} {l : List UInt8} (h : ∀ c ∈ l, f c = false) : l.dropWhile f = l := by
  cases l with
  | nil => rfl
  | cons a l => rw [List.dropWhile_cons, h a (List.mem_cons_self ..)]; rfl
/-- the same part as the reference reads it -/
theorem part_ref (p : List UInt8) : pOk p = (!(hd p).isEmpty && (tl p).length != (nm p).length && isNum (nm p)) ∧ (pOk p = true → word p = hd p ∧ num p = nm p) := by
  rcases cut32 p with ⟨x, y, rfl, hx, hc⟩ | ⟨hx, hc⟩
  · have e1 : word (x ++ 32 :: y) = x := by unfold word; rw [hc]
    have e2 : num (x ++ 32 :: y) = y.dropWhile sp := by unfold num; rw [hc]; rfl
    have e3 : pOk (x ++ 32 :: y) = (ofR low x && isNum (y.dropWhile sp)) := by unfold pOk; rw [hc, e1, e2]; rfl
    by_cases ha : x.all low = true
    · have t1 : hd (x ++ 32 :: y) = x := by
        unfold hd
        rw [List.takeWhile_append_of_pos (fun a h => List.all_eq_true.1 ha a h), List.takeWhile_cons, low32]
        simp
      have t2 : tl (x ++ 32 :: y) = 32 :: y := by
        unfold tl
        rw [List.dropWhile_append_of_pos (fun a h => List.all_eq_true.1 ha a h), List.dropWhile_cons, low32]
        rfl
      have t3 : nm (x ++ 32 :: y) = y.dropWhile sp := by
        unfold nm; rw [t2]; rfl
      have t4 : ((tl (x ++ 32 :: y)).length != (nm (x ++ 32 :: y)).length) = true := by
        rw [bne_iff_ne, t2, t3, List.length_cons]
        have := dw_len sp y
        omega
      rw [e3, t4, t1, t3, e1, e2]
      refine ⟨?_, fun _ => ⟨rfl, rfl⟩⟩
      unfold ofR
      rw [ha]; simp
    · have hf : x.all low = false := by simpa using ha
      have e4 : pOk (x ++ 32 :: y) = false := by rw [e3]; unfold ofR; rw [hf]; rfl
      refine ⟨?_, fun h => by rw [e4] at h; cases h⟩
      rw [e4]
      have key : ∀ x : List UInt8, (∀ c ∈ x, c ≠ 32) → x.all low = false → ∃ b z, tl (x ++ 32 :: y) = b :: z ∧ b ≠ 32 := by
        intro x
        induction x with
        | nil => intro _ h; cases h
        | cons a x ih =>
          intro h1 h2
          by_cases hl : low a = true
          · rw [List.all_cons, hl, Bool.true_and] at h2
            obtain ⟨b, z, h3, h4⟩ := ih (fun c hc => h1 c (List.mem_cons_of_mem _ hc)) h2
            refine ⟨b, z, ?_, h4⟩
            rw [← h3]
            show List.dropWhile low (a :: (x ++ 32 :: y)) = _
            rw [List.dropWhile_cons, hl]; rfl
          · refine ⟨a, x ++ 32 :: y, ?_, h1 a (List.mem_cons_self ..)⟩
            show List.dropWhile low (a :: (x ++ 32 :: y)) = _
            rw [List.dropWhile_cons, if_neg hl]
      obtain ⟨b, z, h3, h4⟩ := key x hx hf
      have h5 : nm (x ++ 32 :: y) = tl (x ++ 32 :: y) := by
        unfold nm
        rw [h3, List.dropWhile_cons]
        have : sp b = false := by unfold sp; rw [beq_eq_false_iff_ne]; exact h4
        rw [this]; rfl
      rw [h5]; simp
  · have e4 : pOk p = false := by unfold pOk; rw [hc]; rfl
    refine ⟨?_, fun h => by rw [e4] at h; cases h⟩
    rw [e4]
    have h5 : nm p = tl p := dw_no (fun c h => by unfold sp; rw [beq_eq_false_iff_ne]; exact hx c ((List.dropWhile_sublist low).subset h))
    rw [h5]; simp
/-- the number is small, or it is no entry -/
theorem isNum_all {t : List UInt8} (h : isNum t = true) : t.all dig = true := by unfold isNum at h; rw [Bool.and_eq_true] at h; exact h.1
end Kp
end Go.Proofs.YtmemkcaikajnnaaGreatDoor
