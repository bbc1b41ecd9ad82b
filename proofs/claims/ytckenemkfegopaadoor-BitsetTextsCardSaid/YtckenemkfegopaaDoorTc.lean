/- Plain laws of the texts of sets: how the package's Parse reads the text of a set. -/
import Derived.Test.YtckenemkfegopaaDoorTp
import Derived.Lib.IndexMore
import Derived.Lib.AtoiAllCases
import Derived.Lib.Strings
namespace Go.Proofs.YtckenemkfegopaaDoor.Kt
set_option linter.unusedVariables false

theorem pre_app (a b : List UInt8) : a.isPrefixOf (a ++ b) = true := by rw [List.isPrefixOf_iff_prefix]; exact List.prefix_append a b
theorem pre_ne {c x : UInt8} (h : x ≠ c) (sp l : List UInt8) : (c :: sp).isPrefixOf (x :: l) = false := by
  rw [List.isPrefixOf_cons_cons, beq_eq_false_iff_ne.2 (Ne.symm h), Bool.false_and]
theorem index_app (c : UInt8) (sp r : List UInt8) : ∀ p : List UInt8, (∀ x ∈ p, x ≠ c) → Lib.index (p ++ c :: (sp ++ r)) (c :: sp) = p.length := by
  intro p
  induction p with
  | nil =>
    intro _
    show (if (c :: sp).isPrefixOf (c :: (sp ++ r)) then (0 : Int) else _) = _
    rw [if_pos (show (c :: sp).isPrefixOf (c :: (sp ++ r)) = true from pre_app (c :: sp) r)]; rfl
  | cons x p ih =>
    intro h
    have i := ih fun y hy => h y (List.mem_cons_of_mem _ hy)
    show (if (c :: sp).isPrefixOf (x :: (p ++ c :: (sp ++ r))) then (0 : Int) else if Lib.index (p ++ c :: (sp ++ r)) (c :: sp) == -1 then -1 else Lib.index (p ++ c :: (sp ++ r)) (c :: sp) + 1) = _
    rw [pre_ne (h x (List.mem_cons_self ..)), if_neg (by decide), i, if_neg (by simp), List.length_cons]
    omega
theorem index_no (c : UInt8) (sp : List UInt8) : ∀ p : List UInt8, (∀ x ∈ p, x ≠ c) → Lib.index p (c :: sp) = -1 := by
  intro p
  induction p with
  | nil => intro _; rfl
  | cons x p ih =>
    intro h
    have i := ih fun y hy => h y (List.mem_cons_of_mem _ hy)
    show (if (c :: sp).isPrefixOf (x :: p) then (0 : Int) else if Lib.index p (c :: sp) == -1 then -1 else Lib.index p (c :: sp) + 1) = _
    rw [pre_ne (h x (List.mem_cons_self ..)), if_neg (by decide), i]; rfl
theorem cut_app (c : UInt8) (sp r p : List UInt8) (h : ∀ x ∈ p, x ≠ c) : Lib.cut (p ++ c :: (sp ++ r)) (c :: sp) = (p, r, true) := by
  unfold Lib.cut
  rw [index_app c sp r p h, if_pos (by omega), Int.toNat_natCast, List.take_left]
  have e : (p ++ c :: (sp ++ r)).drop (p.length + (c :: sp).length) = r := by
    rw [← List.drop_drop, List.drop_left]
    exact List.drop_left (l₁ := c :: sp)
  rw [e]
theorem cut_no (c : UInt8) (sp p : List UInt8) (h : ∀ x ∈ p, x ≠ c) : Lib.cut p (c :: sp) = (p, [], false) := by
  unfold Lib.cut
  rw [index_no c sp p h, if_neg (by decide)]
/-- what a cut leaves is shorter -/
theorem cut_less {l sep : List UInt8} (h : l ≠ []) (hs : sep ≠ []) : (Lib.cut l sep).2.1.length < l.length := by
  have h0 : 0 < l.length := List.length_pos_iff.2 h
  have h1 : 0 < sep.length := List.length_pos_iff.2 hs
  unfold Lib.cut
  split
  · rename_i hi
    have := Lib.index_room l sep hi
    show (l.drop _).length < _
    rw [List.length_drop]; omega
  · exact h0
theorem cut_fst_le (l sep : List UInt8) : (Lib.cut l sep).1.length ≤ l.length := by
  unfold Lib.cut
  split
  · show (l.take _).length ≤ _
    rw [List.length_take]; omega
  · exact Nat.le_refl _
theorem dig_ne {c x : UInt8} (hx : digC x = true) (hc : digC c = false) : x ≠ c := by
  rintro rfl; rw [hx] at hc; cases hc
theorem dec_no (n : Nat) {c : UInt8} (hc : digC c = false) : ∀ x ∈ Lib.decDigits n, x ≠ c := fun x hx => dig_ne (List.all_eq_true.1 (dec_dig n) x hx) hc
theorem tl_no : ∀ ms : List Nat, ∀ x ∈ tlT ms, x ≠ 125 := by
  intro ms
  induction ms with
  | nil => intro x hx; cases hx
  | cons m r ih =>
    intro x hx
    rcases List.mem_cons.1 hx with rfl | hx
    · decide
    rcases List.mem_cons.1 hx with rfl | hx
    · decide
    rcases List.mem_append.1 hx with hx | hx
    · exact dec_no m (by decide) x hx
    · exact ih x hx
theorem pc_no (ms : List Nat) : ∀ x ∈ pcT ms, x ≠ 125 := by
  cases ms with
  | nil => intro x hx; cases hx
  | cons m r =>
    intro x hx
    rcases List.mem_append.1 hx with hx | hx
    · exact dec_no m (by decide) x hx
    · exact tl_no r x hx
/-- the first cut: members and size -/
theorem cut_txt (n : Nat) (ms : List Nat) : Lib.cut (txt n ms) [125, 47] = (123 :: pcT ms, Lib.decDigits n, true) := by
  have h := cut_app 125 [47] (Lib.decDigits n) (123 :: pcT ms) (fun x hx => by
    rcases List.mem_cons.1 hx with rfl | hx
    · decide
    · exact pc_no ms x hx)
  exact h
theorem trim_txt (ms : List Nat) : Lib.trimPrefix (123 :: pcT ms) [123] = pcT ms := by
  unfold Lib.trimPrefix Lib.hasPrefix
  rw [if_pos (show [123].isPrefixOf (123 :: pcT ms) = true from pre_app [123] (pcT ms))]; rfl
/-- the next member -/
theorem cut_pc (m : Nat) (r : List Nat) : (Lib.cut (pcT (m :: r)) [44, 32]).1 = Lib.decDigits m ∧ (Lib.cut (pcT (m :: r)) [44, 32]).2.1 = pcT r := by
  cases r with
  | nil =>
    have e : pcT [m] = Lib.decDigits m := List.append_nil _
    rw [e, cut_no 44 [32] _ (dec_no m (by decide))]
    exact ⟨rfl, rfl⟩
  | cons x r =>
    have h := cut_app 44 [32] (pcT (x :: r)) (Lib.decDigits m) (dec_no m (by decide))
    have e : pcT (m :: x :: r) = Lib.decDigits m ++ 44 :: ([32] ++ pcT (x :: r)) := rfl
    rw [e, h]
    exact ⟨rfl, rfl⟩
theorem u10_ok : ∀ (l : List UInt8) (acc : Nat), l.all digC = true → l.foldl (fun n c => n * 10 + (c.toNat - 48)) acc < 1000000000000000000 → Lib.parseUint10 acc l = .ok (l.foldl (fun n c => n * 10 + (c.toNat - 48)) acc) := by
  intro l
  induction l with
  | nil => intro acc _ _; rfl
  | cons c l ih =>
    intro acc h hb
    rw [List.all_cons, Bool.and_eq_true] at h
    have hc := h.1
    unfold digC at hc
    simp at hc
    have mono : ∀ (l : List UInt8) (a : Nat), a ≤ l.foldl (fun n c => n * 10 + (c.toNat - 48)) a := by
      intro l
      induction l with
      | nil => intro a; exact Nat.le_refl _
      | cons x l ih => intro a; exact Nat.le_trans (by show a ≤ a * 10 + (x.toNat - 48); omega) (ih _)
    have hm := mono l (acc * 10 + (c.toNat - 48))
    have hb2 : l.foldl (fun n c => n * 10 + (c.toNat - 48)) (acc * 10 + (c.toNat - 48)) < 1000000000000000000 := hb
    have i := ih (acc * 10 + (c.toNat - 48)) h.2 hb2
    unfold Lib.parseUint10
    rw [if_pos hc, if_neg (by omega), if_neg (by omega), i]
    rfl
/-- Atoi reads the decimal form of a number -/
theorem atoi_dec {n : Nat} (h : n < 1000000000000000000) : Lib.atoiAll (Lib.decDigits n) = .ok (n : Int) := by
  have hu := u10_ok (Lib.decDigits n) 0 (dec_dig n) (by
    have := dec_val n
    unfold valN at this
    rw [this]; exact h)
  have hv : (Lib.decDigits n).foldl (fun n c => n * 10 + (c.toNat - 48)) 0 = n := dec_val n
  rw [hv] at hu
  obtain ⟨c, t, e, hc⟩ := dec_cons n
  rw [e] at hu ⊢
  have hc2 := hc
  unfold digC at hc2
  simp at hc2
  rw [Lib.atoiAll_plain c t (by omega) (by omega)]
  unfold Lib.parseMag
  rw [if_neg (by simp), hu]
  unfold Lib.signless
  simp
  omega
/-- the package's ascending -/
def ascL : Nat → Int → List UInt8 → Option (List Int)
  | 0, _, _ => none
  | f + 1, last, l =>
    if l = [] then some []
    else match Lib.atoiAll (Lib.cut l [44, 32]).1 with
      | .ok i => if i ≤ last then none else (ascL f i (Lib.cut l [44, 32]).2.1).map (i :: ·)
      | _ => none
theorem asc_txt {mx : Nat} (hmx : mx < 1000000000000000000) : ∀ (ms : List Nat) (f : Nat) (last : Int), ms.length < f → asc mx last ms → ascL f last (pcT ms) = some (ms.map fun m : Nat => (m : Int)) := by
  intro ms
  induction ms with
  | nil =>
    intro f last hf _
    cases f with
    | zero => simp at hf
    | succ f => rfl
  | cons m r ih =>
    intro f last hf ha
    cases f with
    | zero => simp at hf
    | succ f =>
      obtain ⟨h1, h2, h3⟩ := ha
      have hc := cut_pc m r
      unfold ascL
      rw [if_neg (by
        intro e
        exact dec_ne m (List.append_eq_nil_iff.1 e).1), hc.1, hc.2, atoi_dec (by omega)]
      dsimp only
      rw [if_neg (by omega), ih f (m : Int) (by simpa using hf) h3]
      rfl
end Go.Proofs.YtckenemkfegopaaDoor.Kt
