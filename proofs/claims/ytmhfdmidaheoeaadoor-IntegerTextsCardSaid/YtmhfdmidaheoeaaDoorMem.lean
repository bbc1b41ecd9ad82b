/- Slices that read as lists: small words for the walks over package integer. Of no program. -/
import Derived.WalkKit
import Derived.WalkSpells
import Derived.WalkLawsBesides
import Derived.Deep.Draws
import Derived.Lib.Hide
namespace Go.Proofs.YtmhfdmidaheoeaaDoor
open Go.RowKit

/-- The slice value with the address A reads, below block B, as the cells xs. -/
structure Row (w : World) (B : Nat) (A : Option Addr) (xs : List Value) : Prop where
  cells : 0 < xs.length → ∃ b off, A = some ⟨b, off, none⟩ ∧ b < B ∧ ∀ k u, xs[k]? = some u → w.cell? ⟨b, off + k, none⟩ = some u

theorem Row.nil (w : World) (B : Nat) (A : Option Addr) : Row w B A [] := ⟨fun h => absurd h (by simp)⟩

theorem Row.keep {w w' : World} {B : Nat} {A : Option Addr} {xs : List Value} (h : Row w B A xs) (hk : ∀ p : Addr, p.block < B → w'.cell? p = w.cell? p) : Row w' B A xs :=
  ⟨fun hn => by
    obtain ⟨b, off, e, hb, hc⟩ := h.cells hn
    exact ⟨b, off, e, hb, fun k u hu => (hk ⟨b, off + k, none⟩ hb).trans (hc k u hu)⟩⟩

theorem Row.more {w : World} {B B' : Nat} {A : Option Addr} {xs : List Value} (h : Row w B A xs) (hB : B ≤ B') : Row w B' A xs :=
  ⟨fun hn => by
    obtain ⟨b, off, e, hb, hc⟩ := h.cells hn
    exact ⟨b, off, e, Nat.lt_of_lt_of_le hb hB, hc⟩⟩

theorem Row.below {w w' : World} {B : Nat} {A : Option Addr} {xs : List Value} (h : Row w B A xs) (hb : Below B w w') : Row w' B A xs := h.keep fun _ hp => hb.cell hp

theorem Row.alloc {w : World} {B : Nat} {A : Option Addr} {xs : List Value} (h : Row w B A xs) (hB : B ≤ w.heap.size) (o : Obj) : Row (w.alloc o) B A xs :=
  h.keep fun p hp => World.cell?_alloc_lt w o p (by omega)

theorem Row.drewN {w : World} {B : Nat} {A : Option Addr} {xs : List Value} (h : Row w B A xs) (n : Nat) : Row (w.drewN n) B A xs := h.keep fun _ _ => rfl
theorem Row.drew {w : World} {B : Nat} {A : Option Addr} {xs : List Value} (h : Row w B A xs) : Row w.drew B A xs := h.keep fun _ _ => rfl

/-- a row of numbers of one kind -/
structure Nums (κ : IntKind) (w : World) (B : Nat) (A : Option Addr) (ws : List Nat) : Prop where
  row : Row w B A (ws.map fun (x : Nat) => Value.int κ (x : Int))
section
variable {κ : IntKind} {w w' : World} {B B' : Nat} {A : Option Addr} {ws : List Nat}
theorem Nums.below (h : Nums κ w B A ws) (hb : Below B w w') : Nums κ w' B A ws := ⟨h.row.below hb⟩
theorem Nums.more (h : Nums κ w B A ws) (hB : B ≤ B') : Nums κ w B' A ws := ⟨h.row.more hB⟩
theorem Nums.alloc (h : Nums κ w B A ws) (hB : B ≤ w.heap.size) (o : Obj) : Nums κ (w.alloc o) B A ws := ⟨h.row.alloc hB o⟩
theorem Nums.drewN (h : Nums κ w B A ws) (n : Nat) : Nums κ (w.drewN n) B A ws := ⟨h.row.drewN n⟩
theorem Nums.drew (h : Nums κ w B A ws) : Nums κ w.drew B A ws := ⟨h.row.drew⟩
theorem Nums.nil (κ : IntKind) (w : World) (B : Nat) (A : Option Addr) : Nums κ w B A [] := ⟨Row.nil w B A⟩
theorem Nums.take (h : Nums κ w B A ws) (k : Nat) : Nums κ w B A (ws.take k) := ⟨⟨fun hn => by
  rw [List.length_map, List.length_take] at hn
  obtain ⟨b, off, e, hb, hc⟩ := h.row.cells (by rw [List.length_map]; omega)
  refine ⟨b, off, e, hb, fun j u hu => hc j u ?_⟩
  have hj : j < k := by
    have := (List.getElem?_eq_some_iff.1 hu).1
    rw [List.length_map, List.length_take] at this; omega
  rw [List.map_take, List.getElem?_take_of_lt hj] at hu
  exact hu⟩⟩
/-- a number, by its place: the cell, under a name of its own -/
theorem Nums.at_ (h : Nums κ w B A ws) {k : Nat} (hk : k < ws.length) :
    ∃ b off x, A = some ⟨b, off, none⟩ ∧ b < B ∧ w.cell? ⟨b, off + k, none⟩ = some (.int κ ((x : Nat) : Int)) ∧ Hid (x = ws.getD k 0) := by
  obtain ⟨b, off, e, hb, hc⟩ := h.row.cells (by rw [List.length_map]; omega)
  refine ⟨b, off, ws.getD k 0, e, hb, hc k _ ?_, Lib.hid rfl⟩
  rw [List.getElem?_map, List.getElem?_eq_getElem hk, List.getD_eq_getElem?_getD, List.getElem?_eq_getElem hk]; rfl
end

theorem bDrew {B : Nat} {a w : World} (h : Below B a w) (n : Nat) : Below B a (w.drewN n) := ⟨h.os, h.tape, h.output, h.size, h.block⟩
/-- a box of the call's own, and draws -/
theorem bBox (w : World) (o : Obj) (n : Nat) : Below w.heap.size w ((w.alloc o).drewN n) := bDrew ((Below.refl _ _).alloc (Nat.le_refl _) _) n
theorem wrap_nat {n : Nat} (h : n < 2 ^ 64) : IntKind.u64.wrap (n : Int) = (n : Int) := by rw [IntKind.wrap_u64]; omega
theorem ret_int {k : IntKind} {a b : Int} (h : a = b) : Ending.returned (.int k a) = .returned (.int k b) := by rw [h]
theorem ret_bool {a b : Bool} (h : a = b) : Ending.returned (.bool a) = .returned (.bool b) := by rw [h]
theorem wrap32_nat {n : Nat} (h : n < 2 ^ 32) : IntKind.u32.wrap (n : Int) = (n : Int) := by rw [IntKind.wrap_u32]; omega
theorem wrap32_mod (n : Nat) : IntKind.u32.wrap (n : Int) = ((n % 4294967296 : Nat) : Int) := by rw [IntKind.wrap_u32]; omega
theorem wrap64_mod (n : Nat) : IntKind.u64.wrap (n : Int) = ((n % 18446744073709551616 : Nat) : Int) := by rw [IntKind.wrap_u64]; omega
end Go.Proofs.YtmhfdmidaheoeaaDoor
