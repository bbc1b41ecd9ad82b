/- My texts, packed: Mem, Math, Own, Math2, W1, W2, W3, W4, W5. -/
import Derived.WalkKit
import Derived.WalkSpells
import Derived.WalkLawsBesides
import Derived.Deep.Draws
import Derived.Lib.Hide
import Derived.Deep.OwnRows
import Derived.Test.YtkpomjdablopaaaGreatDoorChecked
import Derived.Outline
import Derived.Deep.QuietTactic
import Derived.BigQuiet
import Derived.Deep.DeepFit
import Derived.Lib.SliceRun
import Derived.Laws.AppendOwn
import Derived.Deep.RegionHeld3
import Derived.Deep.DeepCutAuto
/- Slices that read as lists: small words for the walks over package integer. Of no program. -/
namespace Go.Proofs.YtkpomjdablopaaaGreatDoor
open Go.RowKit

/-- The slice value with the address A reads, below block B, as the cells xs. -/
structure Row (w : World) (B : Nat) (A : Option Addr) (xs : List Value) : Prop where
  cells : 0 < xs.length → ∃ b off, A = some ⟨b, off, none⟩ ∧ b < B ∧ ∀ k u, xs[k]? = some u → w.cell? ⟨b, off + k, none⟩ = some u

theorem Row.nil (w : World) (B : Nat) (A : Option Addr) : Row w B A [] := ⟨fun h => absurd h (by simp)⟩

theorem Row.keep {w w' : World} {B : Nat} {A : Option Addr} {xs : List Value} (h : Row w B A xs) (hk : ∀ p : Addr, p.block < B → w'.cell? p = w.cell? p) : Row w' B A xs :=
  ⟨fun hn => by
    obtain ⟨b, off, e, hb, hc⟩ := h.cells hn
    exact ⟨b, off, e, hb, fun k u hu => (hk ⟨b, off + k, none⟩ hb).trans (hc k u hu)⟩⟩

theorem Row.more {w : World} {B B' : Nat} {A : Option Addr} {xs : List Value} (h : Row w B A xs) (hB : B ≤ B') : Row w B' A xs :=
  ⟨fun hn => by
    obtain ⟨b, off, e, hb, hc⟩ := h.cells hn
    exact ⟨b, off, e, Nat.lt_of_lt_of_le hb hB, hc⟩⟩

theorem Row.below {w w' : World} {B : Nat} {A : Option Addr} {xs : List Value} (h : Row w B A xs) (hb : Below B w w') : Row w' B A xs := h.keep fun _ hp => hb.cell hp

theorem Row.alloc {w : World} {B : Nat} {A : Option Addr} {xs : List Value} (h : Row w B A xs) (hB : B ≤ w.heap.size) (o : Obj) : Row (w.alloc o) B A xs :=
  h.keep fun p hp => World.cell?_alloc_lt w o p (by omega)

theorem Row.drewN {w : World} {B : Nat} {A : Option Addr} {xs : List Value} (h : Row w B A xs) (n : Nat) : Row (w.drewN n) B A xs := h.keep fun _ _ => rfl
theorem Row.drew {w : World} {B : Nat} {A : Option Addr} {xs : List Value} (h : Row w B A xs) : Row w.drew B A xs := h.keep fun _ _ => rfl

/-- a row of numbers of one kind -/
structure Nums (κ : IntKind) (w : World) (B : Nat) (A : Option Addr) (ws : List Nat) : Prop where
  row : Row w B A (ws.map fun (x : Nat) => Value.int κ (x : Int))
section
variable {κ : IntKind} {w w' : World} {B B' : Nat} {A : Option Addr} {ws : List Nat}
theorem Nums.below (h : Nums κ w B A ws) (hb : Below B w w') : Nums κ w' B A ws := ⟨h.row.below hb⟩
theorem Nums.more (h : Nums κ w B A ws) (hB : B ≤ B') : Nums κ w B' A ws := ⟨h.row.more hB⟩
theorem Nums.alloc (h : Nums κ w B A ws) (hB : B ≤ w.heap.size) (o : Obj) : Nums κ (w.alloc o) B A ws := ⟨h.row.alloc hB o⟩
theorem Nums.drewN (h : Nums κ w B A ws) (n : Nat) : Nums κ (w.drewN n) B A ws := ⟨h.row.drewN n⟩
theorem Nums.drew (h : Nums κ w B A ws) : Nums κ w.drew B A ws := ⟨h.row.drew⟩
theorem Nums.nil (κ : IntKind) (w : World) (B : Nat) (A : Option Addr) : Nums κ w B A [] := ⟨Row.nil w B A⟩
theorem Nums.take (h : Nums κ w B A ws) (k : Nat) : Nums κ w B A (ws.take k) := ⟨⟨fun hn => by
  rw [List.length_map, List.length_take] at hn
  obtain ⟨b, off, e, hb, hc⟩ := h.row.cells (by rw [List.length_map]; omega)
  refine ⟨b, off, e, hb, fun j u hu => hc j u ?_⟩
  have hj : j < k := by
    have := (List.getElem?_eq_some_iff.1 hu).1
    rw [List.length_map, List.length_take] at this; omega
  rw [List.map_take, List.getElem?_take_of_lt hj] at hu
  exact hu⟩⟩
/-- a number, by its place: the cell, under a name of its own -/
theorem Nums.at_ (h : Nums κ w B A ws) {k : Nat} (hk : k < ws.length) :
    ∃ b off x, A = some ⟨b, off, none⟩ ∧ b < B ∧ w.cell? ⟨b, off + k, none⟩ = some (.int κ ((x : Nat) : Int)) ∧ Hid (x = ws.getD k 0) := by
  obtain ⟨b, off, e, hb, hc⟩ := h.row.cells (by rw [List.length_map]; omega)
  refine ⟨b, off, ws.getD k 0, e, hb, hc k _ ?_, Lib.hid rfl⟩
  rw [List.getElem?_map, List.getElem?_eq_getElem hk, List.getD_eq_getElem?_getD, List.getElem?_eq_getElem hk]; rfl
end

theorem bDrew {B : Nat} {a w : World} (h : Below B a w) (n : Nat) : Below B a (w.drewN n) := ⟨h.os, h.tape, h.output, h.size, h.block⟩
/-- a box of the call's own, and draws -/
theorem bBox (w : World) (o : Obj) (n : Nat) : Below w.heap.size w ((w.alloc o).drewN n) := bDrew ((Below.refl _ _).alloc (Nat.le_refl _) _) n
theorem wrap_nat {n : Nat} (h : n < 2 ^ 64) : IntKind.u64.wrap (n : Int) = (n : Int) := by rw [IntKind.wrap_u64]; omega
theorem ret_int {k : IntKind} {a b : Int} (h : a = b) : Ending.returned (.int k a) = .returned (.int k b) := by rw [h]
theorem ret_bool {a b : Bool} (h : a = b) : Ending.returned (.bool a) = .returned (.bool b) := by rw [h]
theorem wrap32_nat {n : Nat} (h : n < 2 ^ 32) : IntKind.u32.wrap (n : Int) = (n : Int) := by rw [IntKind.wrap_u32]; omega
theorem wrap32_mod (n : Nat) : IntKind.u32.wrap (n : Int) = ((n % 4294967296 : Nat) : Int) := by rw [IntKind.wrap_u32]; omega
theorem wrap64_mod (n : Nat) : IntKind.u64.wrap (n : Int) = ((n % 18446744073709551616 : Nat) : Int) := by rw [IntKind.wrap_u64]; omega
end Go.Proofs.YtkpomjdablopaaaGreatDoor
/- Numbers as lists of words of 32 bits: plain mathematics, of no program. -/
namespace Go.Proofs.YtkpomjdablopaaaGreatDoor.Kn

/-- the powers of 2^32 -/
def pw (k : Nat) : Nat := 4294967296 ^ k
theorem pw_zero : pw 0 = 1 := rfl
theorem pw_succ (k : Nat) : pw (k + 1) = 4294967296 * pw k := by unfold pw; rw [Nat.pow_succ, Nat.mul_comm]
theorem pw_pos (k : Nat) : 0 < pw k := Nat.pow_pos (by decide)
theorem pw_add (i j : Nat) : pw (i + j) = pw i * pw j := by unfold pw; rw [Nat.pow_add]
theorem pw_mono {i j : Nat} (h : i ≤ j) : pw i ≤ pw j := Nat.pow_le_pow_right (by decide) h

/-- the number of a list of words, the least significant first -/
def val : List Nat → Nat
  | [] => 0
  | x :: l => x + 4294967296 * val l

/-- words -/
def Wd (l : List Nat) : Prop := ∀ x ∈ l, x < 4294967296
theorem Wd.nil : Wd [] := fun _ h => by cases h
theorem Wd.cons {x : Nat} {l : List Nat} (hx : x < 4294967296) (h : Wd l) : Wd (x :: l) := fun y hy => by
  rcases List.mem_cons.1 hy with rfl | hy
  · exact hx
  · exact h y hy
theorem Wd.tail {x : Nat} {l : List Nat} (h : Wd (x :: l)) : Wd l := fun y hy => h y (List.mem_cons_of_mem _ hy)
theorem Wd.head {x : Nat} {l : List Nat} (h : Wd (x :: l)) : x < 4294967296 := h x (List.mem_cons_self)
theorem Wd.take {l : List Nat} (h : Wd l) (k : Nat) : Wd (l.take k) := fun y hy => h y (List.mem_of_mem_take hy)
theorem Wd.drop {l : List Nat} (h : Wd l) (k : Nat) : Wd (l.drop k) := fun y hy => h y (List.mem_of_mem_drop hy)
theorem Wd.append {l m : List Nat} (h : Wd l) (h' : Wd m) : Wd (l ++ m) := fun y hy => by
  rcases List.mem_append.1 hy with hy | hy
  · exact h y hy
  · exact h' y hy
theorem Wd.getD {l : List Nat} (h : Wd l) (k : Nat) : l.getD k 0 < 4294967296 := by
  rw [List.getD_eq_getElem?_getD]
  by_cases hk : k < l.length
  · rw [List.getElem?_eq_getElem hk]; exact h _ (List.getElem_mem hk)
  · rw [List.getElem?_eq_none (by omega)]; decide
theorem Wd.set {l : List Nat} (h : Wd l) (k : Nat) {x : Nat} (hx : x < 4294967296) : Wd (l.set k x) := fun y hy => by
  rcases List.mem_or_eq_of_mem_set hy with hy | rfl
  · exact h y hy
  · exact hx
theorem Wd.zeros (n : Nat) : Wd (List.replicate n 0) := fun y hy => by
  rw [List.eq_of_mem_replicate hy]; decide

theorem val_nil : val [] = 0 := rfl
theorem val_cons (x : Nat) (l : List Nat) : val (x :: l) = x + 4294967296 * val l := rfl
theorem val_one (x : Nat) : val [x] = x := by simp [val]
theorem val_zeros (n : Nat) : val (List.replicate n 0) = 0 := by
  induction n with
  | zero => rfl
  | succ n ih => rw [List.replicate_succ, val_cons, ih]
theorem val_append (a b : List Nat) : val (a ++ b) = val a + pw a.length * val b := by
  induction a with
  | nil => simp [val, pw]
  | cons x a ih =>
    rw [List.cons_append, val_cons, val_cons, ih, List.length_cons, pw_succ, Nat.mul_add, Nat.mul_assoc]
    omega
theorem val_lt {l : List Nat} (h : Wd l) : val l < pw l.length := by
  induction l with
  | nil => simp [val, pw]
  | cons x l ih =>
    have h1 := ih h.tail
    have h2 := h.head
    rw [val_cons, List.length_cons, pw_succ]
    omega
theorem take_snoc (l : List Nat) {k : Nat} (hk : k < l.length) : l.take (k + 1) = l.take k ++ [l.getD k 0] := by
  rw [List.take_succ_eq_append_getElem hk, List.getD_eq_getElem?_getD, List.getElem?_eq_getElem hk]; rfl
theorem val_take_succ (l : List Nat) {k : Nat} (hk : k < l.length) : val (l.take (k + 1)) = val (l.take k) + pw k * l.getD k 0 := by
  rw [take_snoc l hk, val_append, val_one, List.length_take, Nat.min_eq_left (by omega)]
theorem val_take_ge (l : List Nat) {k : Nat} (hk : l.length ≤ k) : val (l.take k) = val l := by rw [List.take_of_length_le hk]
theorem val_take_lt {l : List Nat} (h : Wd l) (k : Nat) : val (l.take k) < pw k :=
  Nat.lt_of_lt_of_le (val_lt (h.take k)) (pw_mono (List.length_take_le _ _))
theorem val_split (l : List Nat) (k : Nat) (hk : k ≤ l.length) : val l = val (l.take k) + pw k * val (l.drop k) := by
  have h := val_append (l.take k) (l.drop k)
  rw [List.take_append_drop, List.length_take, Nat.min_eq_left hk] at h
  exact h
theorem drop_cons (l : List Nat) {k : Nat} (hk : k < l.length) : l.drop k = l.getD k 0 :: l.drop (k + 1) := by
  rw [List.drop_eq_getElem_cons hk, List.getD_eq_getElem?_getD, List.getElem?_eq_getElem hk]; rfl
theorem take_set_le (l : List Nat) (k x : Nat) : (l.set k x).take k = l.take k := by rw [List.take_set]; exact List.set_eq_of_length_le (List.length_take_le _ _)
theorem getD_set (l : List Nat) (k j x : Nat) (hk : k < l.length) : (l.set k x).getD j 0 = if j = k then x else l.getD j 0 := by
  rw [List.getD_eq_getElem?_getD, List.getD_eq_getElem?_getD]
  by_cases h : j = k
  · subst h; rw [if_pos rfl, List.getElem?_set_self hk]; rfl
  · rw [if_neg h, List.getElem?_set_ne (fun e => h e.symm)]
theorem val_set_take (l : List Nat) {k : Nat} (x : Nat) (hk : k < l.length) : val ((l.set k x).take (k + 1)) = val (l.take k) + pw k * x := by
  rw [val_take_succ _ (by simpa using hk), take_set_le, getD_set _ _ _ _ hk, if_pos rfl]
theorem drop_set (l : List Nat) {k j : Nat} (x : Nat) (h : k < j) : (l.set k x).drop j = l.drop j := by rw [List.drop_set_of_lt h]
theorem val_set (l : List Nat) {k : Nat} (x : Nat) (hk : k < l.length) : val (l.set k x) + pw k * l.getD k 0 = val l + pw k * x := by
  rw [val_split (l.set k x) k (by simpa using Nat.le_of_lt hk), val_split l k (Nat.le_of_lt hk), take_set_le, drop_cons (l.set k x) (by simpa using hk), drop_cons l hk, drop_set l x (by omega), getD_set _ _ _ _ hk, if_pos rfl, val_cons, val_cons, Nat.mul_add, Nat.mul_add]
  omega

/-- the words of a number -/
def dig (n : Nat) : List Nat := if h : n = 0 then [] else n % 4294967296 :: dig (n / 4294967296)
termination_by n
decreasing_by omega
theorem dig_zero : dig 0 = [] := by rw [dig]; rfl
theorem dig_pos {n : Nat} (h : n ≠ 0) : dig n = n % 4294967296 :: dig (n / 4294967296) := by rw [dig, dif_neg h]
theorem val_dig (n : Nat) : val (dig n) = n := by
  induction n using Nat.strongRecOn with
  | _ n ih =>
    by_cases h : n = 0
    · subst h; rw [dig_zero]; rfl
    · rw [dig_pos h, val_cons, ih _ (by omega)]; omega
theorem dig_wd (n : Nat) : Wd (dig n) := by
  induction n using Nat.strongRecOn with
  | _ n ih =>
    by_cases h : n = 0
    · subst h; rw [dig_zero]; exact Wd.nil
    · rw [dig_pos h]; exact Wd.cons (Nat.mod_lt _ (by decide)) (ih _ (by omega))
theorem dig_inj {n m : Nat} (h : dig n = dig m) : n = m := by rw [← val_dig n, h, val_dig]
theorem dig_nil {n : Nat} : dig n = [] ↔ n = 0 := ⟨fun h => by rw [← val_dig n, h]; rfl, fun h => by rw [h, dig_zero]⟩
theorem dig_len_pos {n : Nat} : 0 < (dig n).length ↔ 0 < n := by
  by_cases h : n = 0
  · subst h; rw [dig_zero]; simp
  · rw [dig_pos h]; simp; omega
theorem dig_last {n : Nat} (h : 0 < n) : (dig n).getD ((dig n).length - 1) 0 ≠ 0 := by
  induction n using Nat.strongRecOn with
  | _ n ih =>
    rw [dig_pos (by omega)]
    by_cases h2 : n / 4294967296 = 0
    · rw [h2, dig_zero]; simp; omega
    · have h3 := dig_len_pos.2 (show 0 < n / 4294967296 by omega)
      have h4 := ih (n / 4294967296) (by omega) (by omega)
      rw [List.length_cons, Nat.add_sub_cancel, List.getD_eq_getElem?_getD]
      rw [List.getD_eq_getElem?_getD] at h4
      obtain ⟨k, hk⟩ : ∃ k, (dig (n / 4294967296)).length = k + 1 := ⟨_, (Nat.sub_add_cancel h3).symm⟩
      rw [hk] at h4 ⊢
      rw [List.getElem?_cons_succ]
      exact h4

/-- words without a zero at the end are the words of their number -/
theorem canon {l : List Nat} (h : Wd l) (hl : l.length = 0 ∨ l.getD (l.length - 1) 0 ≠ 0) : l = dig (val l) := by
  induction l with
  | nil => rw [val_nil, dig_zero]
  | cons x l ih =>
    cases l with
    | nil =>
      have hx := h.head
      have hx0 : x ≠ 0 := by rcases hl with hl | hl; · simp at hl
                             · simpa using hl
      rw [val_one, dig_pos hx0, Nat.mod_eq_of_lt hx, Nat.div_eq_of_lt hx, dig_zero]
    | cons y l =>
      have hl' : (y :: l).getD ((y :: l).length - 1) 0 ≠ 0 := by
        rcases hl with hl | hl
        · simp at hl
        · rw [List.getD_eq_getElem?_getD] at hl ⊢
          simpa using hl
      have e := ih h.tail (Or.inr hl')
      have hv : val (y :: l) ≠ 0 := fun h0 => by rw [h0, dig_zero] at e; cases e
      have hx := h.head
      rw [val_cons x, dig_pos (by omega), show (x + 4294967296 * val (y :: l)) % 4294967296 = x by omega, show (x + 4294967296 * val (y :: l)) / 4294967296 = val (y :: l) by omega, ← e]

theorem dig_len_le {n k : Nat} (h : n < pw k) : (dig n).length ≤ k := by
  induction k generalizing n with
  | zero => rw [pw_zero] at h; rw [show n = 0 by omega, dig_zero]; simp
  | succ k ih =>
    by_cases h0 : n = 0
    · rw [h0, dig_zero]; simp
    · rw [pw_succ] at h
      rw [dig_pos h0, List.length_cons]
      have := ih (n := n / 4294967296) (by omega)
      omega
theorem dig_len_val {l : List Nat} (h : Wd l) : (dig (val l)).length ≤ l.length := dig_len_le (val_lt h)
theorem dig_lt {n : Nat} : n < pw (dig n).length := by
  have := val_lt (dig_wd n); rwa [val_dig] at this
theorem dig_ge {n : Nat} (h : 0 < n) : pw ((dig n).length - 1) ≤ n := by
  rw [Nat.le_iff_lt_add_one, ← Nat.not_le]
  intro hc
  have := dig_len_le (n := n) (k := (dig n).length - 1) (by omega)
  have := dig_len_pos.2 h
  omega
theorem dig_mono {n m : Nat} (h : (dig n).length < (dig m).length) : n < m := by
  have h1 := @dig_lt n
  have hm : 0 < m := dig_len_pos.1 (by omega)
  have h2 := dig_ge hm
  have h3 := pw_mono (show (dig n).length ≤ (dig m).length - 1 by omega)
  omega
theorem val_take_of_dig (l : List Nat) (h : Wd l) {k : Nat} (hk : k ≤ l.length) (hv : val (l.take k) = val l) (he : k = 0 ∨ l.getD (k - 1) 0 ≠ 0) : l.take k = dig (val l) ∧ k = (dig (val l)).length := by
  have hl : (l.take k).length = k := by rw [List.length_take, Nat.min_eq_left hk]
  have e : l.take k = dig (val l) := by
    rw [← hv]
    refine canon (h.take k) ?_
    rw [hl]
    by_cases hk0 : k = 0
    · exact Or.inl hk0
    · rcases he with he | he
      · exact absurd he hk0
      · refine Or.inr ?_
        rwa [List.getD_eq_getElem?_getD, List.getElem?_take_of_lt (by omega), ← List.getD_eq_getElem?_getD]
  exact ⟨e, by rw [← e, hl]⟩

/-- a row without the zeros at its end -/
theorem trim_take {l : List Nat} (h : Wd l) : l.take (dig (val l)).length = dig (val l) := by
  induction l with
  | nil => rw [val_nil, dig_zero]; rfl
  | cons x l ih =>
    have hx := h.head
    have i := ih h.tail
    by_cases h0 : val (x :: l) = 0
    · rw [h0, dig_zero]; rfl
    · have e1 : val (x :: l) % 4294967296 = x := by rw [val_cons]; omega
      have e2 : val (x :: l) / 4294967296 = val l := by rw [val_cons]; omega
      rw [dig_pos h0, e1, e2, List.length_cons, List.take_succ_cons, i]

/-- two rows of one length that agree above k -/
theorem val_lt_of {a b : List Nat} (ha : Wd a) (hl : a.length = b.length) {k : Nat} (hk : k < a.length) (hd : a.drop (k + 1) = b.drop (k + 1)) (hlt : a.getD k 0 < b.getD k 0) : val a < val b := by
  rw [val_split a k (by omega), val_split b k (by omega), drop_cons a hk, drop_cons b (by omega), hd, val_cons, val_cons]
  have h1 := val_take_lt ha k
  have h2 : pw k * (a.getD k 0 + 4294967296 * val (b.drop (k + 1))) + pw k ≤ pw k * (b.getD k 0 + 4294967296 * val (b.drop (k + 1))) := by
    rw [← Nat.mul_succ]; exact Nat.mul_le_mul_left _ (by omega)
  omega

/-- the order of two numbers -/
def cmp (n m : Nat) : Int := if n < m then -1 else if n = m then 0 else 1

/-- an integer's value -/
def iv (neg : Bool) (l : List Nat) : Int := if neg then -(val l : Int) else (val l : Int)
theorem iv_natAbs (neg : Bool) (l : List Nat) : (iv neg l).natAbs = val l := by unfold iv; split <;> omega
theorem iv_neg (neg : Bool) (l : List Nat) : decide (iv neg l < 0) = (neg && decide (0 < val l)) := by
  unfold iv; cases neg <;> simp <;> omega
theorem iv_dig (z : Int) : iv (decide (z < 0)) (dig z.natAbs) = z := by
  unfold iv; rw [val_dig]; by_cases h : z < 0 <;> simp [h] <;> omega
end Go.Proofs.YtkpomjdablopaaaGreatDoor.Kn
/- Rows of numbers that a call has made itself; what functions hand back. -/
namespace Go.Proofs.YtkpomjdablopaaaGreatDoor
open Go.RowKit
set_option linter.unusedVariables false

/-- numbers as cells -/
def ncells (κ : IntKind) (ws : List Nat) : Array Value := (ws.map fun (x : Nat) => Value.int κ (x : Int)).toArray

theorem ncells_made (κ : IntKind) (n : Nat) : madeCells #[.int κ 0] n = ncells κ (List.replicate n 0) := by
  apply Array.ext
  · simp [madeCells, ncells]
  · intro i h1 h2
    simp [madeCells, ncells, Nat.mod_one]

/-- the block g is just the numbers ws, not frozen -/
def Blk (κ : IntKind) (T : TypeId) (w : World) (g : Nat) (ws : List Nat) : Prop := w.heap[g]? = some (.cells (ncells κ ws) T (0, 0))
section
variable {κ : IntKind} {T : TypeId} {w w' : World} {g B : Nat} {ws : List Nat}
theorem Blk.lt (h : Blk κ T w g ws) : g < w.heap.size := (Array.getElem?_eq_some_iff.1 h).1
theorem Blk.cell (h : Blk κ T w g ws) {k : Nat} (hk : k < ws.length) : w.cell? ⟨g, k, none⟩ = some (.int κ ((ws.getD k 0 : Nat) : Int)) := by
  rw [cell_of_row w g k _ _ _ h]
  simp [ncells, hk, List.getD_eq_getElem?_getD]
theorem Blk.frozen (h : Blk κ T w g ws) (k : Nat) : w.frozen? ⟨g, k, none⟩ = false := frozen_of_row w g k _ _ h
theorem Blk.new_ (κ : IntKind) (T : TypeId) (w : World) (ws : List Nat) : Blk κ T (w.alloc (.cells (ncells κ ws) T)) w.heap.size ws := heap_alloc_new w _
theorem Blk.alloc (h : Blk κ T w g ws) (o : Obj) : Blk κ T (w.alloc o) g ws := (Below.heap_alloc w o g h.lt).trans h
theorem Blk.drewN (h : Blk κ T w g ws) (n : Nat) : Blk κ T (w.drewN n) g ws := h
theorem Blk.drew (h : Blk κ T w g ws) : Blk κ T w.drew g ws := h
theorem Blk.below (h : Blk κ T w g ws) (hb : Below B w w') (hg : g < B) : Blk κ T w' g ws := (hb.block g hg).trans h
theorem Blk.far (h : Blk κ T w g ws) {p : Addr} (hp : g ≠ p.block) (u : Value) : Blk κ T (w.setCell p u) g ws := (Below.heap_setCell w p u g hp).trans h
theorem Blk.set_ (h : Blk κ T w g ws) (k x : Nat) : Blk κ T (w.setCell ⟨g, k, none⟩ (.int κ (x : Int))) g (ws.set k x) := by
  have h' : w.heap[g]? = some (.cells (ncells κ ws) T (0, 0)) := h
  show ((w.setCell ⟨g, k, none⟩ (.int κ (x : Int))).heap)[g]? = some (.cells (ncells κ (ws.set k x)) T (0, 0))
  have e : ncells κ (ws.set k x) = (ncells κ ws).setIfInBounds k (.int κ (x : Int)) := by
    unfold ncells
    rw [List.map_set]
    simp
  rw [e]
  simp [World.setCell, Array.getElem?_modify, h']
theorem Blk.nums (h : Blk κ T w g ws) (hg : g < B) : Nums κ w B (some ⟨g, 0, none⟩) ws :=
  ⟨⟨fun _ => ⟨g, 0, rfl, hg, fun k u hu => by
    rw [Nat.zero_add, cell_of_row w g k _ _ _ h]
    simpa [ncells] using hu⟩⟩⟩
end

/-- a row that is owned reads as its cells -/
theorem Row.of_own {w : World} {base e : Nat} {A : Option Addr} {n c : Nat} {xs : List Value} (h : w.ownsRow base e 1 (.slice A n c) n xs) : Row w w.heap.size A xs := ⟨fun hn => by
  rcases h.2 with ⟨_, h0⟩ | ⟨g, cap, cur, hv, _, hg, _⟩
  · have := h.1; omega
  · injection hv with h1 h2 h3
    subst h1
    exact ⟨g, 0, rfl, (Array.getElem?_eq_some_iff.1 hg).1, fun k u hu => by
      have := h.cells (g := g) rfl k u hu
      have e : (⟨g, 0, none⟩ : Addr).add k = ⟨g, 0 + k, none⟩ := by unfold Addr.add; split <;> simp_all
      rwa [e] at this⟩⟩

/-- the block b holds the two values x and y -/
structure Two (w : World) (b : Nat) (x y : Value) : Prop where
  blk : ∃ T, w.heap[b]? = some (.cells #[x, y] T (0, 0))

section
variable {w w' : World} {b : Nat} {x y : Value}
theorem Two.lt (h : Two w b x y) : b < w.heap.size := by obtain ⟨T, h⟩ := h.blk; exact (Array.getElem?_eq_some_iff.1 h).1
theorem Two.c0 (h : Two w b x y) : w.cell? ⟨b, 0, none⟩ = some x := by obtain ⟨T, h⟩ := h.blk; rw [cell_of_row w b 0 _ _ _ h]; rfl
theorem Two.c1 (h : Two w b x y) : w.cell? ⟨b, 1, none⟩ = some y := by obtain ⟨T, h⟩ := h.blk; rw [cell_of_row w b 1 _ _ _ h]; rfl
theorem Two.fr (h : Two w b x y) (k : Nat) : w.frozen? ⟨b, k, none⟩ = false := by obtain ⟨T, h⟩ := h.blk; exact frozen_of_row w b k _ _ h
theorem Two.new_ (w : World) (x y : Value) (T : TypeId) : Two (w.alloc (.cells #[x, y] T)) w.heap.size x y := ⟨T, heap_alloc_new w _⟩
theorem Two.alloc (h : Two w b x y) (o : Obj) : Two (w.alloc o) b x y := by
  have hl := h.lt
  obtain ⟨T, h⟩ := h.blk
  exact ⟨T, (Below.heap_alloc w o b hl).trans h⟩
theorem Two.drewN (h : Two w b x y) (n : Nat) : Two (w.drewN n) b x y := ⟨h.blk⟩
theorem Two.drew (h : Two w b x y) : Two w.drew b x y := ⟨h.blk⟩
theorem Two.below {B : Nat} (h : Two w b x y) (hb : Below B w w') (hB : b < B) : Two w' b x y := by
  obtain ⟨T, h⟩ := h.blk
  exact ⟨T, (hb.block b hB).trans h⟩
theorem Two.far (h : Two w b x y) {p : Addr} (hp : b ≠ p.block) (u : Value) : Two (w.setCell p u) b x y := by
  obtain ⟨T, h⟩ := h.blk
  exact ⟨T, (Below.heap_setCell w p u b hp).trans h⟩
theorem Two.put (h : Two w b x y) (u v : Value) : Two ((w.setCell ⟨b, 0, none⟩ u).setCell ⟨b, 1, none⟩ v) b u v := by
  obtain ⟨T, h⟩ := h.blk
  exact ⟨T, by simp [World.setCell, Array.getElem?_modify, h]⟩
end

/-- a slice of words that reads as the list ws -/
structure Sl (w : World) (B : Nat) (A : Option Addr) (c : Nat) (ws : List Nat) : Prop where
  nums : Nums .u32 w B A ws
  wd : Kn.Wd ws
  cap : ws.length ≤ c
  nil0 : A = none → c = 0
section
variable {w w' : World} {B B' : Nat} {A : Option Addr} {c : Nat} {ws : List Nat}
theorem Sl.below (h : Sl w B A c ws) (hb : Below B w w') : Sl w' B A c ws := ⟨h.nums.below hb, h.wd, h.cap, h.nil0⟩
theorem Sl.more (h : Sl w B A c ws) (hB : B ≤ B') : Sl w B' A c ws := ⟨h.nums.more hB, h.wd, h.cap, h.nil0⟩
theorem Sl.alloc (h : Sl w B A c ws) (hB : B ≤ w.heap.size) (o : Obj) : Sl (w.alloc o) B A c ws := ⟨h.nums.alloc hB o, h.wd, h.cap, h.nil0⟩
theorem Sl.drewN (h : Sl w B A c ws) (n : Nat) : Sl (w.drewN n) B A c ws := ⟨h.nums.drewN n, h.wd, h.cap, h.nil0⟩
theorem Sl.drew (h : Sl w B A c ws) : Sl w.drew B A c ws := ⟨h.nums.drew, h.wd, h.cap, h.nil0⟩
theorem Sl.nil (w : World) (B : Nat) : Sl w B none 0 [] := ⟨Nums.nil _ w B none, Kn.Wd.nil, Nat.zero_le _, fun _ => rfl⟩
theorem Sl.take (h : Sl w B A c ws) (k : Nat) : Sl w B A c (ws.take k) := ⟨h.nums.take k, h.wd.take k, Nat.le_trans (List.length_take_le' _ _) h.cap, h.nil0⟩
/-- to a later world -/
theorem Sl.at_ (h : Sl w B A c ws) (hb : Below w.heap.size w w') (hB : B ≤ w.heap.size) : Sl w' w'.heap.size A c ws := (h.below (hb.mono hB)).more (Nat.le_trans hB hb.size)
theorem Sl.word (h : Sl w B A c ws) {k : Nat} (hk : k < ws.length) :
    ∃ b off x, A = some ⟨b, off, none⟩ ∧ b < B ∧ w.cell? ⟨b, off + k, none⟩ = some (.int .u32 ((x : Nat) : Int)) ∧ Hid (x = ws.getD k 0) ∧ x < 4294967296 := by
  obtain ⟨b, off, x, e, hb, hc, hx⟩ := h.nums.at_ hk
  exact ⟨b, off, x, e, hb, hc, hx, by rw [hx.out]; exact h.wd.getD k⟩
end

/-- an integer as a value -/
abbrev intV (neg : Bool) (A : Option Addr) (n c : Nat) : Value := .agg #[.bool neg, .slice A n c]

/-- the integer z in canonical form -/
def IntRes (z : Int) (w : World) (e : Ending) (w' : World) : Prop :=
  ∃ A c, e = .returned (.agg #[.bool (decide (z < 0)), .slice A (Kn.dig z.natAbs).length c]) ∧ Sl w' w'.heap.size A c (Kn.dig z.natAbs) ∧ Below w.heap.size w w'
/-- the magnitude n -/
def MagRes (n : Nat) (w : World) (e : Ending) (w' : World) : Prop :=
  ∃ A c, e = .returned (.slice A (Kn.dig n).length c) ∧ Sl w' w'.heap.size A c (Kn.dig n) ∧ Below w.heap.size w w'
end Go.Proofs.YtkpomjdablopaaaGreatDoor
/- Sums, differences, products and comparisons word by word: plain mathematics, of no program. -/
namespace Go.Proofs.YtkpomjdablopaaaGreatDoor.Kn

theorem val_take_step (l : List Nat) (k : Nat) : val (l.take (k + 1)) = val (l.take k) + pw k * l.getD k 0 := by
  by_cases h : k < l.length
  · exact val_take_succ l h
  · rw [List.take_of_length_le (by omega), List.take_of_length_le (by omega), List.getD_eq_getElem?_getD, List.getElem?_eq_none (by omega)]; simp
theorem pw_divmod (k t : Nat) : pw k * (t % 4294967296) + pw (k + 1) * (t / 4294967296) = pw k * t := by
  rw [pw_succ, Nat.mul_comm 4294967296 (pw k), Nat.mul_assoc, ← Nat.mul_add, Nat.mod_add_div]

/-- one step of a sum -/
theorem add_step {a b vs : List Nat} {k cr t : Nat} (hk : k < vs.length) (hi : val (vs.take k) + pw k * cr = val (a.take k) + val (b.take k)) (ht : t = cr + a.getD k 0 + b.getD k 0) :
    val ((vs.set k (t % 4294967296)).take (k + 1)) + pw (k + 1) * (t / 4294967296) = val (a.take (k + 1)) + val (b.take (k + 1)) := by
  rw [val_set_take _ _ hk, val_take_step a, val_take_step b]
  have h := pw_divmod k t
  have e : pw k * t = pw k * cr + pw k * a.getD k 0 + pw k * b.getD k 0 := by rw [ht, Nat.mul_add, Nat.mul_add]
  omega

/-- one step of m * a - n * b -/
theorem comb_step {a b vs : List Nat} {k m n plus minus borrow p q r bo : Nat} (hk : k < vs.length)
    (hi : val (vs.take k) + n * val (b.take k) + pw k * plus = m * val (a.take k) + pw k * (minus + borrow))
    (hp : p = plus + m * a.getD k 0) (hq : q = minus + borrow + n * b.getD k 0) (hr : r + q % 4294967296 = p % 4294967296 + 4294967296 * bo) :
    val ((vs.set k r).take (k + 1)) + n * val (b.take (k + 1)) + pw (k + 1) * (p / 4294967296) = m * val (a.take (k + 1)) + pw (k + 1) * (q / 4294967296 + bo) := by
  rw [val_set_take _ _ hk, val_take_step a, val_take_step b]
  have h1 := pw_divmod k p
  have h2 := pw_divmod k q
  have e1 : pw k * p = pw k * plus + m * (pw k * a.getD k 0) := by rw [hp, Nat.mul_add, Nat.mul_left_comm]
  have e2 : pw k * q = pw k * (minus + borrow) + n * (pw k * b.getD k 0) := by rw [hq, Nat.mul_add, Nat.mul_left_comm n]
  have e3 : pw k * r + pw k * (q % 4294967296) = pw k * (p % 4294967296) + pw (k + 1) * bo := by
    rw [← Nat.mul_add, hr, Nat.mul_add, pw_succ, Nat.mul_comm 4294967296 (pw k), Nat.mul_assoc]
  rw [Nat.mul_add n, Nat.mul_add m, Nat.mul_add (pw (k + 1))]
  omega
theorem eq_of_mod {x y P s t : Nat} (hx : x < P) (hy : y < P) (h : x + P * s = y + P * t) : x = y := by
  have := congrArg (· % P) h
  simpa [Nat.add_mul_mod_self_left, Nat.mod_eq_of_lt hx, Nat.mod_eq_of_lt hy] using this
theorem comb_end {a b vs : List Nat} {m n plus minus borrow : Nat} (hv : Wd vs) (hl : vs.length = a.length)
    (hi : val (vs.take a.length) + n * val (b.take a.length) + pw a.length * plus = m * val (a.take a.length) + pw a.length * (minus + borrow))
    (hle : n * val b ≤ m * val a) (hlt : m * val a - n * val b < pw a.length) : val vs = m * val a - n * val b := by
  rw [List.take_of_length_le (by omega : vs.length ≤ a.length), List.take_of_length_le (Nat.le_refl a.length)] at hi
  have hb : val b = val (b.take a.length) + pw a.length * val (b.drop a.length) := by
    by_cases h : a.length ≤ b.length
    · exact val_split b _ h
    · rw [List.take_of_length_le (by omega), List.drop_eq_nil_of_le (by omega)]; simp [val]
  have h1 : n * val b = n * val (b.take a.length) + pw a.length * (n * val (b.drop a.length)) := by
    rw [← Nat.mul_left_comm n, ← Nat.mul_add, ← hb]
  refine eq_of_mod (s := plus) (t := n * val (b.drop a.length) + (minus + borrow)) (by rw [← hl]; exact val_lt hv) hlt ?_
  rw [Nat.mul_add]
  omega

/-- one step of a row of a product -/
theorem mul_step {b vs p0 : List Nat} {i j x carry t : Nat} (hk : i + j < vs.length)
    (hi : val vs + pw (i + j) * carry = val p0 + pw i * (x * val (b.take j))) (ht : t = carry + x * b.getD j 0 + vs.getD (i + j) 0) :
    val (vs.set (i + j) (t % 4294967296)) + pw (i + (j + 1)) * (t / 4294967296) = val p0 + pw i * (x * val (b.take (j + 1))) := by
  have h1 := val_set vs (t % 4294967296) hk
  have h2 := pw_divmod (i + j) t
  have e : pw (i + j) * t = pw (i + j) * carry + pw i * (x * (pw j * b.getD j 0)) + pw (i + j) * vs.getD (i + j) 0 := by
    rw [ht, Nat.mul_add, Nat.mul_add, pw_add, Nat.mul_left_comm x, Nat.mul_assoc (pw i) (pw j) (x * _)]
  rw [val_take_step b, Nat.mul_add x, Nat.mul_add (pw i), show i + (j + 1) = i + j + 1 by omega]
  omega
theorem mul_end {a b vs p0 : List Nat} {i x carry : Nat} (hx : x = a.getD i 0) (h0 : val p0 = val (a.take i) * val b) (hk : i + b.length < vs.length) (hz : vs.getD (i + b.length) 0 = 0)
    (hv : val vs + pw (i + b.length) * carry = val p0 + pw i * (x * val (b.take b.length))) : val (vs.set (i + b.length) carry) = val (a.take (i + 1)) * val b := by
  have h1 := val_set vs carry hk
  rw [hz, Nat.mul_zero] at h1
  rw [List.take_of_length_le (Nat.le_refl _)] at hv
  rw [val_take_step a, ← hx, Nat.add_mul, Nat.mul_assoc]
  omega

theorem cmp_self (n : Nat) : cmp n n = 0 := by unfold cmp; simp
theorem cmp_lt {n m : Nat} (h : n < m) : cmp n m = -1 := by unfold cmp; rw [if_pos h]
theorem cmp_gt {n m : Nat} (h : m < n) : cmp n m = 1 := by unfold cmp; rw [if_neg (by omega), if_neg (by omega)]
/-- canonical rows of two lengths -/
theorem cmp_len {n m : Nat} (h : (dig n).length ≠ (dig m).length) : cmp n m = cmp (dig n).length (dig m).length := by
  rcases Nat.lt_or_gt_of_ne h with h | h
  · rw [cmp_lt h, cmp_lt (dig_mono h)]
  · rw [cmp_gt h, cmp_gt (dig_mono h)]
/-- two rows of one length that agree above k -/
theorem cmp_at {a b : List Nat} (ha : Wd a) (hb : Wd b) (hl : a.length = b.length) {k : Nat} (hk : k < a.length) (hd : a.drop (k + 1) = b.drop (k + 1)) (hne : a.getD k 0 ≠ b.getD k 0) : cmp (val a) (val b) = cmp (a.getD k 0) (b.getD k 0) := by
  rcases Nat.lt_or_gt_of_ne hne with h | h
  · rw [cmp_lt h, cmp_lt (val_lt_of ha hl hk hd h)]
  · rw [cmp_gt h, cmp_gt (val_lt_of hb hl.symm (by omega) hd.symm h)]
theorem drop_ext {a b : List Nat} (hl : a.length = b.length) {k : Nat} (hk : k < a.length) (hd : a.drop (k + 1) = b.drop (k + 1)) (he : a.getD k 0 = b.getD k 0) : a.drop k = b.drop k := by
  rw [drop_cons a hk, drop_cons b (by omega), hd, he]

/-- the number of bits -/
def bl (n : Nat) : Nat := if n = 0 then 0 else n.log2 + 1
end Go.Proofs.YtkpomjdablopaaaGreatDoor.Kn
/- Walks: trim, Valid, Sign, signed. -/
namespace Go.Proofs.YtkpomjdablopaaaGreatDoor
open Go.RowKit
set_option linter.unusedVariables false

theorem quiet_of_eq {P : Program} {f : FuncId} {args : Array Value} {w : World} {n : Nat} {v : Value}
    (h : Calls P f args (w.drewN n) fun e w' => e = .returned v ∧ w.drewN n = w') : Calls P f args (w.drewN n) fun e w'' => e = .returned v ∧ ∃ m, w'' = w.drewN m :=
  h.mono fun _ _ ⟨he, hm⟩ => ⟨he, n, hm.symm⟩

theorem quiet_more {P : Program} {f : FuncId} {args : Array Value} {w : World} {a n : Nat} {v : Value}
    (h : Calls P f args (w.drewN (a + n)) fun e w' => e = .returned v ∧ w.drewN (a + n) = w') : Calls P f args (w.drewN (a + n)) fun e w'' => e = .returned v ∧ ∃ m, w'' = w.drewN (a + m) :=
  h.mono fun _ _ ⟨he, hm⟩ => ⟨he, n, hm.symm⟩
theorem quiet_drew {P : Program} {f : FuncId} {args : Array Value} {w : World} {n : Nat} {v : Value}
    (h : Calls P f args (w.drewN n) fun e w' => e = .returned v ∧ ∃ q, w' = (w.drewN n).drewN q) : Calls P f args (w.drewN n) fun e w'' => e = .returned v ∧ ∃ m, w'' = w.drewN m :=
  h.mono fun _ _ ⟨he, q, hm⟩ => ⟨he, n + q, by rw [hm, World.drewN_drewN]⟩
theorem quiet_drew_more {P : Program} {f : FuncId} {args : Array Value} {w : World} {a n : Nat} {v : Value}
    (h : Calls P f args (w.drewN (a + n)) fun e w' => e = .returned v ∧ ∃ q, w' = (w.drewN (a + n)).drewN q) : Calls P f args (w.drewN (a + n)) fun e w'' => e = .returned v ∧ ∃ m, w'' = w.drewN (a + m) :=
  h.mono fun _ _ ⟨he, q, hm⟩ => ⟨he, n + q, by rw [hm, World.drewN_drewN, Nat.add_assoc]⟩

theorem ret_slice {A : Option Addr} {c n m : Nat} (h : n = m) : Ending.returned (.slice A n c) = .returned (.slice A m c) := by rw [h]

set_option maxHeartbeats 400000 in
theorem trim_any (A : Option Addr) (c : Nat) (ws : List Nat) (w : World) (B : Nat) (h : Sl w B A c ws) (hl : ws.length ≤ 1000000000) :
    Calls Tryz.prog 65 #[.slice A ws.length c] w fun e w' => e = .returned (.slice A (Kn.dig (Kn.val ws)).length c) ∧ w = w' := by
  have hcap := h.cap
  go_enter Tryz.func65, Tryz.ntmps65
  go_wp2
  go_loop [0] (fun v => ∃ k : Nat, k ≤ ws.length ∧ v = .slice A k c ∧ Hid (Kn.val (ws.take k) = Kn.val ws)) (fun v => match v with | .slice _ n _ => n | _ => 0)
  case atStart => exact ⟨ws.length, Nat.le_refl _, rfl, Lib.hid (by rw [List.take_length])⟩
  case round =>
    obtain ⟨k, hk, rfl, HV⟩ := hrel
    by_cases hk0 : k = 0
    · subst hk0
      have hd : Hid (0 = (Kn.dig (Kn.val ws)).length) := Lib.hid (Kn.val_take_of_dig ws h.wd (Nat.zero_le _) HV.out (Or.inl rfl)).2
      go_wp2
      go_ret
      exact ⟨ret_slice hd.out, rfl⟩
    · obtain ⟨b, off, x, rfl, hb, hc, hx, hx2⟩ := h.word (k := k - 1) (by omega)
      have e1 : ((k : Int) - 1).toNat = k - 1 := by omega
      have e2 : (0 : Int) ≤ (k : Int) - 1 := by omega
      have hk1 : 0 < k := by omega
      clear hk0
      by_cases hx0 : x = 0
      · subst hx0
        have hv : Hid (Kn.val (ws.take (k - 1)) = Kn.val ws) := Lib.hid (by
          have h1 := Kn.val_take_step ws (k - 1)
          rw [← hx.out, Nat.mul_zero, Nat.sub_add_cancel hk1, HV.out] at h1
          omega)
        go_wp2
        go_round
        case rel => exact ⟨k - 1, by omega, by first | rfl | (congr 1; omega) | (rw [e1]), hv⟩
        case measure => simp; omega
      · have hx1 : ((x : Int) == 0) = false := by simp; omega
        have hd : Hid (k = (Kn.dig (Kn.val ws)).length) := Lib.hid (Kn.val_take_of_dig ws h.wd hk HV.out (Or.inr (by rw [← hx.out]; exact hx0))).2
        clear hx0
        go_wp2
        go_ret
        exact ⟨ret_slice hd.out, rfl⟩
end Go.Proofs.YtkpomjdablopaaaGreatDoor
/- Walks: Sign, Valid, signed, slices.Clone. -/
namespace Go.Proofs.YtkpomjdablopaaaGreatDoor
open Go.RowKit
set_option linter.unusedVariables false

theorem val_nil_of {ws : List Nat} {m : Nat} (hm : m = (Kn.dig (Kn.val ws)).length) : (m = 0 ↔ Kn.val ws = 0) := by
  rw [hm, List.length_eq_zero_iff, Kn.dig_nil]

set_option maxHeartbeats 400000 in
theorem sign_any (neg : Bool) (A : Option Addr) (c : Nat) (ws : List Nat) (w : World) (h : Sl w w.heap.size A c ws) (hl : ws.length ≤ 1000000000) :
    Calls Tryz.prog 51 #[intV neg A ws.length c] w fun e w' => e = .returned (.int .i64 (Kn.iv neg ws).sign) ∧ Below w.heap.size w w' := by
  obtain ⟨m, hm⟩ : ∃ m : Nat, Hid (m = (Kn.dig (Kn.val ws)).length) := ⟨_, Lib.hid rfl⟩
  have hv := Lib.hid (val_nil_of hm.out)
  have hT : ∀ w : World, ∀ B, Sl w B A c ws → Calls Tryz.prog 65 #[.slice A ws.length c] w fun e w' => e = .returned (.slice A m c) ∧ w = w' := fun w B h => by
    rw [hm.out]; exact trim_any A c ws w B h hl
  have HT := Lib.hid hT
  clear hT
  unfold intV
  have hX := h.alloc (Nat.le_refl _) (.cells #[.bool neg, .slice A ws.length c] 24)
  by_cases h0 : m = 0
  · have hm0 : ((m : Int) == 0) = true := by simp; omega
    have H0 := Lib.hid h0
    clear h0
    go_enter Tryz.func51, Tryz.ntmps51
    go_wp2_with (go_at_call 65; refine (HT.out _ _ hX).mono ?_; rintro e w' ⟨rfl, rfl⟩)
    go_ret
    exact ⟨ret_int (by have := hv.out.1 H0.out; unfold Kn.iv; cases neg <;> simp [this]), (Below.refl _ _).alloc (Nat.le_refl _) _⟩
  · have hm0 : ((m : Int) == 0) = false := by simp; omega
    have H0 := Lib.hid h0
    clear h0
    have hp : Hid (0 < Kn.val ws) := Lib.hid (by have := mt hv.out.2 H0.out; omega)
    cases neg
    · go_enter Tryz.func51, Tryz.ntmps51
      go_wp2_with (go_at_call 65; refine (HT.out _ _ hX).mono ?_; rintro e w' ⟨rfl, rfl⟩)
      go_ret
      exact ⟨ret_int (by have := hp.out; unfold Kn.iv; simp; exact (Int.sign_eq_one_iff_pos.2 (by omega)).symm), (Below.refl _ _).alloc (Nat.le_refl _) _⟩
    · go_enter Tryz.func51, Tryz.ntmps51
      go_wp2_with (go_at_call 65; refine (HT.out _ _ hX).mono ?_; rintro e w' ⟨rfl, rfl⟩)
      go_ret
      exact ⟨ret_int (by have := hp.out; unfold Kn.iv; simp; exact (Int.sign_eq_one_iff_pos.2 (by omega)).symm), (Below.refl _ _).alloc (Nat.le_refl _) _⟩

/-- canonical? -/
def vld (neg : Bool) (ws : List Nat) : Bool := if ws.length = 0 then !neg else !(ws.getD (ws.length - 1) 0 == 0)

theorem int_zero {A : Option Addr} {w w' : World} {z : Int} (hz : z = 0) (hb : Below w.heap.size w w') : IntRes z w (.returned (intV false none 0 0)) w' := by
  subst hz
  refine ⟨none, 0, ?_, ?_, hb⟩
  · show _ = Ending.returned (intV (decide ((0 : Int) < 0)) none (Kn.dig 0).length 0)
    rw [Kn.dig_zero]; rfl
  · show Sl w' w'.heap.size none 0 (Kn.dig 0)
    rw [Kn.dig_zero]; exact Sl.nil _ _
/-- a canonical row is what it should be -/
theorem int_some {A : Option Addr} {c : Nat} {w w' : World} {neg : Bool} {ws : List Nat} (hp : 0 < Kn.val ws) (hs : Sl w' w'.heap.size A c (Kn.dig (Kn.val ws))) (hb : Below w.heap.size w w') :
    IntRes (Kn.iv neg ws) w (.returned (intV neg A (Kn.dig (Kn.val ws)).length c)) w' := by
  refine ⟨A, c, ?_, ?_, hb⟩
  · rw [Kn.iv_neg, Kn.iv_natAbs, decide_eq_true hp, Bool.and_true]
  · rw [Kn.iv_natAbs]; exact hs
/-- a row's canonical part -/
theorem Sl.trim {w : World} {B : Nat} {A : Option Addr} {c : Nat} {ws : List Nat} (h : Sl w B A c ws) : Sl w B A c (Kn.dig (Kn.val ws)) := by
  have hle := Kn.dig_len_val h.wd
  have e : ws.take (Kn.dig (Kn.val ws)).length = Kn.dig (Kn.val ws) := by
    have := Kn.trim_take h.wd
    exact this
  rw [← e]; exact h.take _

set_option maxHeartbeats 400000 in
theorem signed_any (neg : Bool) (A : Option Addr) (c : Nat) (ws : List Nat) (w : World) (h : Sl w w.heap.size A c ws) (hl : ws.length ≤ 1000000000) :
    Calls Tryz.prog 63 #[.bool neg, .slice A ws.length c] w (IntRes (Kn.iv neg ws) w) := by
  obtain ⟨m, hm⟩ : ∃ m : Nat, Hid (m = (Kn.dig (Kn.val ws)).length) := ⟨_, Lib.hid rfl⟩
  have hv := Lib.hid (val_nil_of hm.out)
  have hT : ∀ w : World, ∀ B, Sl w B A c ws → Calls Tryz.prog 65 #[.slice A ws.length c] w fun e w' => e = .returned (.slice A m c) ∧ w = w' := fun w B h => by
    rw [hm.out]; exact trim_any A c ws w B h hl
  have HT := Lib.hid hT
  clear hT
  have hX := h.alloc (Nat.le_refl _) (.cells #[.bool false, .slice none 0 0] 24)
  by_cases h0 : m = 0
  · have hm0 : ((m : Int) == 0) = true := by simp; omega
    have H0 := Lib.hid h0
    clear h0
    go_enter Tryz.func63, Tryz.ntmps63
    go_wp2_with (go_at_call 65; refine (HT.out _ _ hX).mono ?_; rintro e w' ⟨rfl, rfl⟩)
    refine bodyPost_ret (v := intV false none 0 0) (by simp [results, Tryz.results63, go_sem, intV]) rfl ?_
    refine int_zero (A := A) ?_ ?_
    · have := hv.out.1 H0.out; unfold Kn.iv; cases neg <;> simp [this]
    · exact (Below.refl _ _).alloc (Nat.le_refl _) _
  · have hm0 : ((m : Int) == 0) = false := by simp; omega
    have H0 := Lib.hid h0
    clear h0
    have hp : Hid (0 < Kn.val ws) := Lib.hid (by have := mt hv.out.2 H0.out; omega)
    go_enter Tryz.func63, Tryz.ntmps63
    go_wp2_with (go_at_call 65; refine (HT.out _ _ hX).mono ?_; rintro e w' ⟨rfl, rfl⟩)
    refine bodyPost_ret (v := intV neg A m c) (by simp [results, Tryz.results63, go_sem, intV]) rfl ?_
    rw [hm.out]
    exact int_some hp.out ((h.trim.alloc (Nat.le_refl _) _).more (by simp)) ((Below.refl _ _).alloc (Nat.le_refl _) _)

theorem infoU32 : (Tryz.prog.info? 88).map (fun i => (i.zero, i.size, i.bytes)) = some (some (.int .u32 0), 1, 4) := by kernel_rfl
theorem al1 (w : World) (o : Obj) : Below w.heap.size w (w.alloc o) := (Below.refl _ _).alloc (Nat.le_refl _) o
theorem own_slice {w : World} {base e n : Nat} {v : Value} {xs : List Value} (h : w.ownsRow base e 1 v n xs) : ∃ A c, v = .slice A n c ∧ n ≤ c := by
  rcases h.2 with ⟨rfl, h0⟩ | ⟨g, cap, cur, rfl, _, _, hh, _⟩
  · exact ⟨none, 0, by rw [h0], by omega⟩
  · exact ⟨_, cap, rfl, hh⟩
def u32s (l : List Nat) : List Value := l.map fun (x : Nat) => Value.int .u32 (x : Int)
theorem u32s_len (l : List Nat) : (u32s l).length = l.length := by unfold u32s; rw [List.length_map]
theorem u32s_one (l : List Nat) : ∀ u ∈ u32s l, u.oneCell' = true := by
  intro u hu
  obtain ⟨x, _, rfl⟩ := List.mem_map.1 hu
  rfl
theorem Sl.of_own {w : World} {base n c : Nat} {A : Option Addr} {l : List Nat} (h : w.ownsRow base 88 1 (.slice A n c) n (u32s l)) (hw : Kn.Wd l) (hc : n ≤ c) (hn : l.length = n) : Sl w w.heap.size A c l :=
  ⟨⟨Row.of_own h⟩, hw, by omega, fun e => by
    subst e
    rcases h.2 with ⟨e, _⟩ | ⟨g, cap, cur, e, _⟩
    · injection e
    · injection e with e1; cases e1⟩

set_option maxRecDepth 100000 in
set_option maxHeartbeats 400000 in
theorem clone_any (A : Option Addr) (c : Nat) (ws : List Nat) (w : World) (h : Sl w w.heap.size A c ws) (hl : ws.length ≤ 1000000000) :
    Calls Tryz.prog 64 #[.slice A ws.length c] w fun e w' => ∃ A' c', e = .returned (.slice A' ws.length c') ∧ Sl w' w'.heap.size A' c' ws ∧ Below w.heap.size w w' := by
  have hnil := fun (W : World) (a : Option Addr) (l c : Nat) => Lib.run_eql_slice_nil (P := Tryz.prog) W 22 88 a l c 0 0 Tryz.underlying22
  cases A with
  | none =>
    have hw0 : ws = [] := by
      by_cases h0 : 0 < ws.length
      · obtain ⟨b, off, x, e, _⟩ := h.word h0; cases e
      · exact List.eq_nil_of_length_eq_zero (by omega)
    subst hw0
    go_enter Tryz.func64, Tryz.ntmps64
    go_wp2
    go_ret
    exact ⟨none, 0, rfl, Sl.nil _ _, Below.refl _ _⟩
  | some ad =>
    obtain ⟨i0, hi, hz0, hz1, hz2⟩ := info_parts infoU32
    have hown : (w.alloc (.cells #[] 88)).ownsRow w.heap.size 88 1 (.slice (some ⟨w.heap.size, 0, none⟩) 0 0) 0 [] := World.ownsRow_made (e := 88) (size := 1) (base := w.heap.size) w #[] 0 (Nat.le_refl _) (by unfold maxLen; omega) rfl
    have hlm := Lib.hid (show (u32s ws).length = ws.length * 1 by rw [u32s_len, Nat.mul_one])
    have hnews : Hid (∀ j u, (u32s ws)[j]? = some u → (w.alloc (.cells #[] 88)).cell? (ad.add j) = some u) := Lib.hid (fun j u hu => by
      obtain ⟨b, off, e, hb, hc⟩ := h.nums.row.cells (by have := (List.getElem?_eq_some_iff.1 hu).1; rw [u32s_len] at this; rw [List.length_map]; omega)
      injection e with e
      subst e
      rw [Go.WideShapes.add_plain, World.cell?_alloc_lt _ _ _ hb]
      exact hc j u hu)
    go_enter Tryz.func64, Tryz.ntmps64
    go_wp2_with (at_builtin; refine wpList_append_own _ rfl _ _ 22 rfl w.heap.size 88 i0 (.int .u32 0) 1 4 Tryz.underlying22 hi hz0 hz1 hz2 rfl (by decide) _ _ _ rfl hown ad ws.length c (u32s ws) rfl hlm.out hnews.out (u32s_one ws) ?c3 ?c4 ?c5 ?_)
    case c3 => unfold maxLen; omega
    case c4 => omega
    case c5 => simp
    intro v' w3 hown' hgrow _
    have b3 : Below w.heap.size w w3 := (al1 w (.cells #[] 88)).grown hgrow (by simp) (fun k e => by simp [Value.ownBlock] at e; omega)
    replace hown' : w3.ownsRow w.heap.size 88 1 v' ws.length (u32s ws) := by simpa using hown'
    obtain ⟨A', c', rfl, hc'⟩ := own_slice hown'
    have hS := Sl.of_own hown' h.wd hc' rfl
    clear hown' hgrow hown
    go_wp2
    go_ret
    exact ⟨A', c', rfl, hS, b3⟩
end Go.Proofs.YtkpomjdablopaaaGreatDoor
/- Walks: Clean, Abs, Neg. -/
namespace Go.Proofs.YtkpomjdablopaaaGreatDoor
open Go.RowKit
set_option linter.unusedVariables false

theorem two_set (w : World) {b : Nat} {x y : Value} (u v : Value) (h0 : w.cell? ⟨b, 0, none⟩ = some x) (h1 : w.cell? ⟨b, 1, none⟩ = some y) :
    ((w.setCell ⟨b, 0, none⟩ u).setCell ⟨b, 1, none⟩ v).cell? ⟨b, 0, none⟩ = some u ∧ ((w.setCell ⟨b, 0, none⟩ u).setCell ⟨b, 1, none⟩ v).cell? ⟨b, 1, none⟩ = some v := by
  refine ⟨?_, ?_⟩
  · rw [World.cell?_setCell_other _ _ _ _ (by simp)]
    exact World.cell?_setCell_same _ _ _ h0
  · refine World.cell?_setCell_same _ _ _ (u := y) ?_
    rw [World.cell?_setCell_other _ _ _ _ (by simp)]
    exact h1

theorem bDrew1 {B : Nat} {a w : World} (h : Below B a w) : Below B a w.drew := ⟨h.os, h.tape, h.output, h.size, h.block⟩

/-- an integer's box holds no words -/
theorem Two.apart {w : World} {b b' off : Nat} {p : Bool} {A : Option Addr} {n c : Nat} {x : Int} (h : Two w b (.bool p) (.slice A n c)) (hc : w.cell? ⟨b', off, none⟩ = some (.int .u32 x)) : b' ≠ b := by
  intro e
  subst e
  obtain ⟨T, h⟩ := h.blk
  rw [cell_of_row w b' off _ _ _ h] at hc
  match off with
  | 0 => simp at hc
  | 1 => simp at hc
  | k + 2 => simp at hc
theorem Sl.put {w : World} {B : Nat} {A : Option Addr} {c : Nat} {ws : List Nat} (h : Sl w B A c ws) {b : Nat} {p : Bool} {A' : Option Addr} {n' c' : Nat} (ht : Two w b (.bool p) (.slice A' n' c')) (u v : Value) :
    Sl ((w.setCell ⟨b, 0, none⟩ u).setCell ⟨b, 1, none⟩ v) B A c ws := by
  refine ⟨⟨⟨fun hn => ?_⟩⟩, h.wd, h.cap, h.nil0⟩
  obtain ⟨g, off, e, hb, hc⟩ := h.nums.row.cells hn
  refine ⟨g, off, e, hb, fun k u' hu => ?_⟩
  have hk := hc k u' hu
  obtain ⟨x, hx⟩ : ∃ x : Nat, u' = .int .u32 (x : Int) := by
    rw [List.getElem?_map] at hu
    cases hh : ws[k]? with
    | none => rw [hh] at hu; cases hu
    | some y => rw [hh] at hu; exact ⟨y, by injection hu with hu; exact hu.symm⟩
  subst hx
  have hne := ht.apart hk
  rw [World.cell?_setCell_other _ _ _ _ (fun e => hne (Addr.mk.inj e).1.symm), World.cell?_setCell_other _ _ _ _ (fun e => hne (Addr.mk.inj e).1.symm)]
  exact hk

/-- a call's world with an argument's box and the result's -/
structure B2 (w wr : World) (neg : Bool) (A : Option Addr) (n c : Nat) : Prop where
  t1 : Two wr w.heap.size (.bool neg) (.slice A n c)
  t2 : Two wr (w.heap.size + 1) (.bool false) (.slice none 0 0)
  bel : Below w.heap.size w wr
section
variable {w wr wx : World} {neg : Bool} {A : Option Addr} {n c : Nat}
theorem B2.below (h : B2 w wr neg A n c) (hb : Below wr.heap.size wr wx) : B2 w wx neg A n c := ⟨h.t1.below hb h.t1.lt, h.t2.below hb h.t2.lt, h.bel.trans (hb.mono h.bel.size)⟩
theorem B2.drew (h : B2 w wr neg A n c) : B2 w wr.drew neg A n c := ⟨h.t1.drew, h.t2.drew, bDrew1 h.bel⟩
theorem B2.new_ (w : World) (neg : Bool) (A : Option Addr) (n c : Nat) (T T' : TypeId) : B2 w ((w.alloc (.cells #[.bool neg, .slice A n c] T)).alloc (.cells #[.bool false, .slice none 0 0] T')) neg A n c :=
  ⟨(Two.new_ _ _ _ _).alloc _, by simpa using Two.new_ (w.alloc (.cells #[.bool neg, .slice A n c] T)) (.bool false) (.slice none 0 0) T', ((Below.refl _ _).alloc (Nat.le_refl _) _).alloc (by simp) _⟩
/-- what is handed back through the result's box -/
theorem B2.fin (h : B2 w wr neg A n c) {z : Int} {A' : Option Addr} {c' : Nat} (hs : Sl wr wr.heap.size A' c' (Kn.dig z.natAbs)) :
    IntRes z w (.returned (intV (decide (z < 0)) A' (Kn.dig z.natAbs).length c')) ((wr.setCell ⟨w.heap.size + 1, 0, none⟩ (.bool (decide (z < 0)))).setCell ⟨w.heap.size + 1, 1, none⟩ (.slice A' (Kn.dig z.natAbs).length c')) := by
  refine ⟨A', c', rfl, ?_, ?_⟩
  · have := hs.put h.t2 (.bool (decide (z < 0))) (.slice A' (Kn.dig z.natAbs).length c')
    exact this.more (by simp [World.setCell])
  · exact (h.bel.setCell (p := ⟨w.heap.size + 1, 0, none⟩) (by simp) _).setCell (p := ⟨w.heap.size + 1, 1, none⟩) (by simp) _
end

theorem iv_trim (neg : Bool) (ws : List Nat) : Kn.iv neg (Kn.dig (Kn.val ws)) = Kn.iv neg ws := by unfold Kn.iv; rw [Kn.val_dig]

set_option maxRecDepth 100000 in
set_option maxHeartbeats 400000 in
theorem neg_any (neg : Bool) (A : Option Addr) (c : Nat) (ws : List Nat) (w : World) (h : Sl w w.heap.size A c ws) (hl : ws.length ≤ 1000000000) :
    Calls Tryz.prog 28 #[intV neg A ws.length c] w (IntRes (Kn.iv (!neg) ws) w) := by
  have hdl : (Kn.dig (Kn.val ws)).length ≤ 1000000000 := Nat.le_trans (Kn.dig_len_val h.wd) hl
  unfold intV
  go_enter Tryz.func28, Tryz.ntmps28
  go_wp2_with fail
  have i := B2.new_ w neg A ws.length c 24 24
  revert i
  generalize (w.alloc (.cells #[.bool neg, .slice A ws.length c] 24)).alloc (.cells #[.bool false, .slice none 0 0] 24) = wx
  intro i
  replace i := i.drew
  have hX := (h.below i.bel).more i.bel.size
  go_region_held3 (fun w' => w'.cell? ⟨w.heap.size, 0, none⟩ = some (.bool neg) ∧ w'.cell? ⟨w.heap.size, 1, none⟩ = some (.slice A ws.length c))
    (first | exact ⟨i.t1.c0, i.t1.c1⟩ | exact ⟨((i.t1.far (by simp) _).far (by simp) _).c0, ((i.t1.far (by simp) _).far (by simp) _).c1⟩)
    (first
      | (go_at_call 65; refine (trim_any A c ws _ _ hX hl).mono ?_; rintro e w' ⟨rfl, rfl⟩)
      | (go_at_call 64; refine (clone_any A c _ _ hX.trim hdl).mono ?_; rintro e w2 ⟨A2, c2, rfl, hS2, hb2⟩; replace i := i.below hb2)
      | (go_at_call 63; refine (signed_any (!neg) A2 c2 _ _ hS2 hdl).mono ?_; rintro e w3 ⟨A3, c3, rfl, hS3, hb3⟩; replace i := i.below hb3; have d20 := i.t2.c0; have d21 := i.t2.c1; have f20 := i.t2.fr 0; have f21 := i.t2.fr 1))
  rw [iv_trim] at hS3
  obtain ⟨r0, r1⟩ := two_set w3 (.bool (decide (Kn.iv (!neg) ws < 0))) (.slice A3 (Kn.dig (Kn.iv (!neg) ws).natAbs).length c3) d20 d21
  rw [iv_trim]
  clear d20 d21 f20 f21
  go_wp2_with fail
  refine bodyPost_ret (v := .agg #[.bool (decide (Kn.iv (!neg) ws < 0)), .slice A3 (Kn.dig (Kn.iv (!neg) ws).natAbs).length c3]) (by simp [results, Tryz.results28, go_sem, r0, r1]) rfl ?_
  exact i.fin hS3
end Go.Proofs.YtkpomjdablopaaaGreatDoor
/- Walks: cmp.Compare, compareWords. -/
namespace Go.Proofs.YtkpomjdablopaaaGreatDoor
open Go.RowKit
set_option linter.unusedVariables false

set_option maxHeartbeats 400000 in
theorem isNaN_int (x : Int) (w : World) : Calls Tryz.prog 145 #[.int .i64 x] w fun e w' => e = .returned (.bool false) ∧ w = w' := by
  go_enter Tryz.func145, Tryz.ntmps145
  go_wp2
  go_ret
  exact ⟨by simp, rfl⟩
set_option maxHeartbeats 400000 in
theorem isNaN_u32 (x : Int) (w : World) : Calls Tryz.prog 166 #[.int .u32 x] w fun e w' => e = .returned (.bool false) ∧ w = w' := by
  go_enter Tryz.func166, Tryz.ntmps166
  go_wp2
  go_ret
  exact ⟨by simp, rfl⟩

/-- the order of two integers -/
def cmpI (x y : Int) : Int := if x < y then -1 else if y < x then 1 else 0
theorem cmpI_nat (n m : Nat) : cmpI (n : Int) (m : Int) = Kn.cmp n m := by
  unfold cmpI Kn.cmp
  rcases Nat.lt_trichotomy n m with h | h | h
  · rw [if_pos (by omega), if_pos h]
  · rw [if_neg (by omega), if_neg (by omega), if_neg (by omega), if_pos h]
  · rw [if_neg (by omega), if_pos (by omega), if_neg (by omega), if_neg (by omega)]
set_option maxHeartbeats 400000 in
theorem cmp_int (x y : Int) (w : World) : Calls Tryz.prog 115 #[.int .i64 x, .int .i64 y] w fun e w' => e = .returned (.int .i64 (cmpI x y)) ∧ w = w' := by
  unfold cmpI
  by_cases h1 : x < y
  · rw [if_pos h1]
    go_enter Tryz.func115, Tryz.ntmps115
    go_wp2_with (go_at_call 145; refine (isNaN_int _ _).mono ?_; rintro e w' ⟨rfl, rfl⟩)
    go_ret
    exact ⟨rfl, rfl⟩
  · rw [if_neg h1]
    by_cases h2 : y < x
    · rw [if_pos h2]
      go_enter Tryz.func115, Tryz.ntmps115
      go_wp2_with (go_at_call 145; refine (isNaN_int _ _).mono ?_; rintro e w' ⟨rfl, rfl⟩)
      go_ret
      exact ⟨rfl, rfl⟩
    · rw [if_neg h2]
      go_enter Tryz.func115, Tryz.ntmps115
      go_wp2_with (go_at_call 145; refine (isNaN_int _ _).mono ?_; rintro e w' ⟨rfl, rfl⟩)
      go_ret
      exact ⟨rfl, rfl⟩
set_option maxHeartbeats 400000 in
theorem cmp_u32 (x y : Int) (w : World) : Calls Tryz.prog 146 #[.int .u32 x, .int .u32 y] w fun e w' => e = .returned (.int .i64 (cmpI x y)) ∧ w = w' := by
  unfold cmpI
  by_cases h1 : x < y
  · rw [if_pos h1]
    go_enter Tryz.func146, Tryz.ntmps146
    go_wp2_with (go_at_call 166; refine (isNaN_u32 _ _).mono ?_; rintro e w' ⟨rfl, rfl⟩)
    go_ret
    exact ⟨rfl, rfl⟩
  · rw [if_neg h1]
    by_cases h2 : y < x
    · rw [if_pos h2]
      go_enter Tryz.func146, Tryz.ntmps146
      go_wp2_with (go_at_call 166; refine (isNaN_u32 _ _).mono ?_; rintro e w' ⟨rfl, rfl⟩)
      go_ret
      exact ⟨rfl, rfl⟩
    · rw [if_neg h2]
      go_enter Tryz.func146, Tryz.ntmps146
      go_wp2_with (go_at_call 166; refine (isNaN_u32 _ _).mono ?_; rintro e w' ⟨rfl, rfl⟩)
      go_ret
      exact ⟨rfl, rfl⟩

set_option maxRecDepth 100000 in
set_option maxHeartbeats 1000000 in
theorem compareWords_any (A : Option Addr) (ca : Nat) (n : Nat) (B : Option Addr) (cb : Nat) (m : Nat) (w : World) (P : Nat) (ha : Sl w P A ca (Kn.dig n)) (hb : Sl w P B cb (Kn.dig m)) (hla : (Kn.dig n).length ≤ 1000000000) (hlb : (Kn.dig m).length ≤ 1000000000) :
    Calls Tryz.prog 116 #[.slice A (Kn.dig n).length ca, .slice B (Kn.dig m).length cb] w fun e w' => e = .returned (.int .i64 (Kn.cmp n m)) ∧ ∃ q, w' = w.drewN q := by
  obtain ⟨a, hA⟩ : ∃ a, Hid (a = Kn.dig n) := ⟨_, Lib.hid rfl⟩
  obtain ⟨b, hB⟩ : ∃ b, Hid (b = Kn.dig m) := ⟨_, Lib.hid rfl⟩
  have hcn : ∀ x, x = Kn.cmp (Kn.val a) (Kn.val b) → x = Kn.cmp n m := fun x h => by rw [h, hA.out, hB.out, Kn.val_dig, Kn.val_dig]
  have HCN := Lib.hid hcn
  clear hcn
  have HLen : Hid (a.length ≠ b.length → Kn.cmp n m = Kn.cmp a.length b.length) := Lib.hid (fun h => by rw [hA.out, hB.out] at h ⊢; exact Kn.cmp_len h)
  rw [← hA.out] at ha hla ⊢
  rw [← hB.out] at hb hlb ⊢
  by_cases hl : a.length = b.length
  · have hle : ((a.length : Int) != (b.length : Int)) = false := by simp [hl]
    have hle2 : (a.length != b.length) = false := by simp [hl]
    have hbl : b.length ≤ a.length := by omega
    have hbl2 : a.length ≤ b.length := by omega
    have HL := Lib.hid hl
    clear hl
    go_enter Tryz.func116, Tryz.ntmps116
    go_wp2_with fail
    go_loopw [5] (fun v wr => ∃ k q : Nat, k ≤ a.length ∧ v = .int .i64 ((k : Int) - 1) ∧ wr = w.drewN q ∧ Hid (a.drop k = b.drop k)) (fun v _ => (intOf v + 1).toNat)
    case atStart => exact ⟨a.length, 0, Nat.le_refl _, rfl, rfl, Lib.hid (by rw [List.drop_of_length_le (Nat.le_refl _), List.drop_of_length_le (by have := HL.out; omega)])⟩
    case round =>
      obtain ⟨k, q, hk, rfl, rfl, HD⟩ := hrel
      by_cases hk0 : k = 0
      · subst hk0
        go_wp2_with fail
        go_ret
        exact ⟨ret_int (HCN.out _ (by have := HD.out; rw [List.drop_zero, List.drop_zero] at this; rw [this, Kn.cmp_self])), _, rfl⟩
      · have hk1 : 0 < k := by omega
        obtain ⟨b1, o1, x, rfl, hb1, hc1, hx, hxl⟩ := ha.word (k := k - 1) (by omega)
        obtain ⟨b2, o2, y, rfl, hb2, hc2, hy, hyl⟩ := hb.word (k := k - 1) (by omega)
        have e1 : ((k : Int) - 1).toNat = k - 1 := by omega
        have e2 : (0 : Int) ≤ (k : Int) - 1 := by omega
        have e3 : (k : Int) - 1 < (a.length : Int) := by omega
        have e4 : (k : Int) - 1 < (b.length : Int) := by omega
        clear hk0
        by_cases hxy : x = y
        · subst hxy
          have HD' : Hid (a.drop (k - 1) = b.drop (k - 1)) := Lib.hid (Kn.drop_ext HL.out (by omega) (by rw [Nat.sub_add_cancel hk1]; exact HD.out) (by rw [← hx.out, ← hy.out]))
          go_wp2_with fail
          go_quiet (fail)
          go_wp2_with fail
          go_roundw
          case rel => exact ⟨k - 1, _, by omega, by go_num, rfl, HD'⟩
          case measure => simp [intOf]; omega
        · have hne : ((x : Int) != (y : Int)) = true := by simp; omega
          have hne2 : (x != y) = true := by simp; omega
          have HC : Hid (cmpI (x : Int) (y : Int) = Kn.cmp (Kn.val a) (Kn.val b)) := Lib.hid (by
            rw [cmpI_nat, hx.out, hy.out]
            refine (Kn.cmp_at ha.wd hb.wd HL.out (by omega) (by rw [Nat.sub_add_cancel hk1]; exact HD.out) ?_).symm
            rw [← hx.out, ← hy.out]; exact hxy)
          clear hxy
          go_wp2_with fail
          go_quiet (fail)
          go_wp2_with fail
          go_quiet ((go_at_call 146; first | exact quiet_more (cmp_u32 _ _ _) | exact quiet_of_eq (cmp_u32 _ _ _)))
          go_wp2_with fail
          go_ret
          exact ⟨ret_int (HCN.out _ HC.out), _, by rw [World.drewN_drewN, World.drewN_drewN]⟩
  · have hle : ((a.length : Int) != (b.length : Int)) = true := by simp; omega
    have hle2 : (a.length != b.length) = true := by simp; omega
    have HC : Hid (cmpI (a.length : Int) (b.length : Int) = Kn.cmp n m) := Lib.hid (by rw [cmpI_nat, HLen.out hl])
    clear hl
    go_enter Tryz.func116, Tryz.ntmps116
    go_wp2_with (go_at_call 115; refine (cmp_int _ _ _).mono ?_; rintro e w' ⟨rfl, rfl⟩)
    go_ret
    exact ⟨ret_int HC.out, 0, rfl⟩
end Go.Proofs.YtkpomjdablopaaaGreatDoor
/- Walks: addWords. -/
namespace Go.Proofs.YtkpomjdablopaaaGreatDoor
open Go.RowKit
set_option linter.unusedVariables false

theorem makeU32 (n : Nat) (hn : n ≤ 10000000000) (z : Int) (hz : z = (n : Int)) (W : World) : (Instr.makeSlice 22 (.int .i64 z) (.int .i64 z)).run Tryz.prog W = .ok (.slice (some ⟨W.heap.size, 0, none⟩) n n) (W.alloc (.cells (ncells .u32 (List.replicate n 0)) 88)) := by
  subst hz
  obtain ⟨i, hi, hzz⟩ := Option.map_eq_some_iff.1 infoU32
  simp only [Prod.mk.injEq] at hzz
  have h := run_make (P := Tryz.prog) W 22 88 i (.int .u32 0) Tryz.underlying22 hi hzz.1 .i64 .i64 n n (by omega) (by omega) (by rw [hzz.2.2]; omega) (by omega)
  rw [hzz.2.1, show (Value.int .u32 0).cells = #[.int .u32 0] from rfl] at h
  rw [← ncells_made]
  simpa using h

/-- a loop that fills the block g -/
structure FillW (w wr : World) (g n : Nat) (vs : List Nat) : Prop where
  row : Blk .u32 88 wr g vs
  len : vs.length = n
  wd : Kn.Wd vs
  bel : Below w.heap.size w wr
  hg : w.heap.size ≤ g
section
variable {w wr : World} {g n : Nat} {vs : List Nat}
theorem FillW.put (h : FillW w wr g n vs) (k : Nat) {x : Nat} (hx : x < 4294967296) : FillW w (wr.setCell ⟨g, k, none⟩ (.int .u32 (x : Int))) g n (vs.set k x) :=
  ⟨h.row.set_ k x, by rw [List.length_set]; exact h.len, h.wd.set k hx, h.bel.setCell (p := ⟨g, k, none⟩) h.hg _, h.hg⟩
theorem FillW.drew (h : FillW w wr g n vs) : FillW w wr.drew g n vs := ⟨h.row.drew, h.len, h.wd, bDrew1 h.bel, h.hg⟩
theorem FillW.drewN (h : FillW w wr g n vs) (q : Nat) : FillW w (wr.drewN q) g n vs := ⟨h.row.drewN q, h.len, h.wd, bDrew h.bel q, h.hg⟩
theorem FillW.new_ (w : World) (n : Nat) : FillW w (w.alloc (.cells (ncells .u32 (List.replicate n 0)) 88)) w.heap.size n (List.replicate n 0) :=
  ⟨Blk.new_ _ _ _ _, by simp, Kn.Wd.zeros n, (Below.refl _ _).alloc (Nat.le_refl _) _, Nat.le_refl _⟩
theorem FillW.sl (h : FillW w wr g n vs) : Sl wr wr.heap.size (some ⟨g, 0, none⟩) n vs := ⟨h.row.nums h.row.lt, h.wd, Nat.le_of_eq h.len, fun e => by cases e⟩
end
theorem FillW.mag {w wr : World} {g n N : Nat} {vs : List Nat} (h : FillW w wr g n vs) (hv : Kn.val vs = N) : MagRes N w (.returned (.slice (some ⟨g, 0, none⟩) (Kn.dig (Kn.val vs)).length n)) wr := by
  subst hv
  exact ⟨_, _, rfl, h.sl.trim, h.bel⟩
theorem wrap32_int {z : Int} {n : Nat} (h : z = (n : Int)) : IntKind.u32.wrap z = ((n % 4294967296 : Nat) : Int) := by rw [h]; exact wrap32_mod n

set_option maxRecDepth 100000 in
set_option maxHeartbeats 1000000 in
theorem addWords_any (A : Option Addr) (ca : Nat) (a : List Nat) (B : Option Addr) (cb : Nat) (b : List Nat) (w : World) (ha : Sl w w.heap.size A ca a) (hb : Sl w w.heap.size B cb b) (hla : a.length ≤ 999999999) (hlb : b.length ≤ 999999999) :
    Calls Tryz.prog 121 #[.slice A a.length ca, .slice B b.length cb] w (MagRes (Kn.val a + Kn.val b) w) := by
  rcases Nat.lt_or_ge a.length b.length with hab | hab
  · have hlt0 : decide (a.length < b.length) = true := by simp [hab]
    have hmk := makeU32 (b.length + 1) (by omega) (((b.length : Nat) : Int) + 1) (by omega)
    have e1 : (((b.length : Nat) : Int) + 1).toNat = b.length + 1 := by omega
    go_enter Tryz.func121, Tryz.ntmps121
    go_wp2_with fail
    have F0 := FillW.new_ w (b.length + 1)
    revert F0
    generalize w.alloc (.cells (ncells .u32 (List.replicate (b.length + 1) 0)) 88) = w1
    intro F0
    clear hmk
    go_loopw [6, 22] (fun cv iv wr => ∃ k cr vs, k ≤ b.length ∧ iv = .int .i64 (k : Nat) ∧ cv = .int .u64 (cr : Nat) ∧ cr ≤ 1 ∧ FillW w wr w.heap.size (b.length + 1) vs ∧ Hid (Kn.val (vs.take k) + Kn.pw k * cr = Kn.val (b.take k) + Kn.val (a.take k))) (fun _ iv _ => b.length - (intOf iv).toNat)
    case atStart => exact ⟨0, 0, _, Nat.zero_le _, rfl, rfl, by omega, F0, Lib.hid (by simp [Kn.val])⟩
    case round =>
      obtain ⟨k, cr, vs, hk, rfl, rfl, hcr, F, HI⟩ := hrel
      by_cases hlt : k < b.length
      · obtain ⟨b1, o1, x, rfl, hb1, hc1, hx, hxl⟩ := (hb.below F.bel).word hlt
        have hcg := F.row.cell (k := k) (by have := F.len; omega)
        have hfg := F.row.frozen k
        by_cases hlt2 : k < a.length
        · obtain ⟨b2, o2, y, rfl, hb2, hc2, hy, hyl⟩ := (ha.below F.bel).word hlt2
          have hlt3 : decide (k < a.length) = true := by simp [hlt2]
          go_wp2_with fail
          rw [show (((cr : Int) + (x : Int)) + (y : Int)) % 4294967296 = (((cr + x + y) % 4294967296 : Nat) : Int) by omega, show (((cr : Int) + (x : Int)) + (y : Int)) / 4294967296 = (((cr + x + y) / 4294967296 : Nat) : Int) by omega]
          have F2 := F.put k (x := (cr + x + y) % 4294967296) (by omega)
          have hq : (cr + x + y) / 4294967296 ≤ 1 := by omega
          have HI2 := Lib.hid (Kn.add_step (by have := F.len; omega) HI.out (show cr + x + y = _ by rw [hx.out, hy.out]))
          go_roundw
          case rel => exact ⟨k + 1, _, _, by omega, by go_num, rfl, hq, F2, HI2⟩
          case measure => simp [intOf]; omega
        · have hlt3 : decide (k < a.length) = false := by simp; omega
          have hy0 : Hid (a.getD k 0 = 0) := Lib.hid (by rw [List.getD_eq_getElem?_getD, List.getElem?_eq_none (by omega)]; rfl)
          go_wp2_with fail
          rw [show ((cr : Int) + (x : Int)) % 4294967296 = (((cr + x) % 4294967296 : Nat) : Int) by omega, show ((cr : Int) + (x : Int)) / 4294967296 = (((cr + x) / 4294967296 : Nat) : Int) by omega]
          have F2 := F.put k (x := (cr + x) % 4294967296) (by omega)
          have hq : (cr + x) / 4294967296 ≤ 1 := by omega
          have HI2 := Lib.hid (Kn.add_step (by have := F.len; omega) HI.out (show cr + x = _ by rw [hx.out, hy0.out, Nat.add_zero]))
          go_roundw
          case rel => exact ⟨k + 1, _, _, by omega, by go_num, rfl, hq, F2, HI2⟩
          case measure => simp [intOf]; omega
      · obtain rfl : k = b.length := by omega
        have hcg := F.row.cell (k := b.length) (by have := F.len; omega)
        have hfg := F.row.frozen b.length
        have F2 := F.put b.length (x := cr) (by omega)
        have HV : Hid (Kn.val (vs.set b.length cr) = Kn.val a + Kn.val b) := Lib.hid (by
          have hl := F.len
          have h1 := Kn.val_set_take vs cr (k := b.length) (by omega)
          have h2 := HI.out
          rw [List.take_of_length_le (by rw [List.length_set]; omega)] at h1
          rw [List.take_of_length_le (Nat.le_refl b.length), List.take_of_length_le (show a.length ≤ b.length by omega)] at h2
          omega)
        have hvl := F2.len
        have HVL := Lib.hid hvl
        have FS := F2.sl
        have hT := trim_any (some ⟨w.heap.size, 0, none⟩) (b.length + 1) (vs.set b.length cr) _ _ FS (by omega)
        rw [hvl] at hT
        have HT := Lib.hid hT
        clear hvl hT
        go_wp2_with fail
        refine HT.out.mono ?_
        rintro e w' ⟨rfl, rfl⟩
        clear hcg hfg
        go_wp2_with fail
        go_ret
        exact F2.mag HV.out
  · have hlt0 : decide (a.length < b.length) = false := by simp; omega
    have hmk := makeU32 (a.length + 1) (by omega) (((a.length : Nat) : Int) + 1) (by omega)
    have e1 : (((a.length : Nat) : Int) + 1).toNat = a.length + 1 := by omega
    go_enter Tryz.func121, Tryz.ntmps121
    go_wp2_with fail
    have F0 := FillW.new_ w (a.length + 1)
    revert F0
    generalize w.alloc (.cells (ncells .u32 (List.replicate (a.length + 1) 0)) 88) = w1
    intro F0
    clear hmk
    go_loopw [6, 22] (fun cv iv wr => ∃ k cr vs, k ≤ a.length ∧ iv = .int .i64 (k : Nat) ∧ cv = .int .u64 (cr : Nat) ∧ cr ≤ 1 ∧ FillW w wr w.heap.size (a.length + 1) vs ∧ Hid (Kn.val (vs.take k) + Kn.pw k * cr = Kn.val (a.take k) + Kn.val (b.take k))) (fun _ iv _ => a.length - (intOf iv).toNat)
    case atStart => exact ⟨0, 0, _, Nat.zero_le _, rfl, rfl, by omega, F0, Lib.hid (by simp [Kn.val])⟩
    case round =>
      obtain ⟨k, cr, vs, hk, rfl, rfl, hcr, F, HI⟩ := hrel
      by_cases hlt : k < a.length
      · obtain ⟨b1, o1, x, rfl, hb1, hc1, hx, hxl⟩ := (ha.below F.bel).word hlt
        have hcg := F.row.cell (k := k) (by have := F.len; omega)
        have hfg := F.row.frozen k
        by_cases hlt2 : k < b.length
        · obtain ⟨b2, o2, y, rfl, hb2, hc2, hy, hyl⟩ := (hb.below F.bel).word hlt2
          have hlt3 : decide (k < b.length) = true := by simp [hlt2]
          go_wp2_with fail
          rw [show (((cr : Int) + (x : Int)) + (y : Int)) % 4294967296 = (((cr + x + y) % 4294967296 : Nat) : Int) by omega, show (((cr : Int) + (x : Int)) + (y : Int)) / 4294967296 = (((cr + x + y) / 4294967296 : Nat) : Int) by omega]
          have F2 := F.put k (x := (cr + x + y) % 4294967296) (by omega)
          have hq : (cr + x + y) / 4294967296 ≤ 1 := by omega
          have HI2 := Lib.hid (Kn.add_step (by have := F.len; omega) HI.out (show cr + x + y = _ by rw [hx.out, hy.out]))
          go_roundw
          case rel => exact ⟨k + 1, _, _, by omega, by go_num, rfl, hq, F2, HI2⟩
          case measure => simp [intOf]; omega
        · have hlt3 : decide (k < b.length) = false := by simp; omega
          have hy0 : Hid (b.getD k 0 = 0) := Lib.hid (by rw [List.getD_eq_getElem?_getD, List.getElem?_eq_none (by omega)]; rfl)
          go_wp2_with fail
          rw [show ((cr : Int) + (x : Int)) % 4294967296 = (((cr + x) % 4294967296 : Nat) : Int) by omega, show ((cr : Int) + (x : Int)) / 4294967296 = (((cr + x) / 4294967296 : Nat) : Int) by omega]
          have F2 := F.put k (x := (cr + x) % 4294967296) (by omega)
          have hq : (cr + x) / 4294967296 ≤ 1 := by omega
          have HI2 := Lib.hid (Kn.add_step (by have := F.len; omega) HI.out (show cr + x = _ by rw [hx.out, hy0.out, Nat.add_zero]))
          go_roundw
          case rel => exact ⟨k + 1, _, _, by omega, by go_num, rfl, hq, F2, HI2⟩
          case measure => simp [intOf]; omega
      · obtain rfl : k = a.length := by omega
        have hcg := F.row.cell (k := a.length) (by have := F.len; omega)
        have hfg := F.row.frozen a.length
        have F2 := F.put a.length (x := cr) (by omega)
        have HV : Hid (Kn.val (vs.set a.length cr) = Kn.val a + Kn.val b) := Lib.hid (by
          have hl := F.len
          have h1 := Kn.val_set_take vs cr (k := a.length) (by omega)
          have h2 := HI.out
          rw [List.take_of_length_le (by rw [List.length_set]; omega)] at h1
          rw [List.take_of_length_le (Nat.le_refl a.length), List.take_of_length_le (show b.length ≤ a.length by omega)] at h2
          omega)
        have hvl := F2.len
        have HVL := Lib.hid hvl
        have FS := F2.sl
        have hT := trim_any (some ⟨w.heap.size, 0, none⟩) (a.length + 1) (vs.set a.length cr) _ _ FS (by omega)
        rw [hvl] at hT
        have HT := Lib.hid hT
        clear hvl hT
        go_wp2_with fail
        refine HT.out.mono ?_
        rintro e w' ⟨rfl, rfl⟩
        clear hcg hfg
        go_wp2_with fail
        go_ret
        exact F2.mag HV.out
end Go.Proofs.YtkpomjdablopaaaGreatDoor
