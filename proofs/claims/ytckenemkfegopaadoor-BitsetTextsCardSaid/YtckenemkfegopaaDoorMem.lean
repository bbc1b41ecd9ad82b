/- Slices that read as lists: small words for the walks over package bitset. Of no program. -/
import Derived.WalkKit
import Derived.WalkSpells
import Derived.WalkLawsBesides
import Derived.Deep.Draws
import Derived.Lib.Hide
namespace Go.Proofs.YtckenemkfegopaaDoor
open Go.RowKit

/-- The slice value with the address A reads, below block B, as the cells xs. -/
structure Row (w : World) (B : Nat) (A : Option Addr) (xs : List Value) : Prop where
  cells : 0 < xs.length → ∃ b off, A = some ⟨b, off, none⟩ ∧ b < B ∧ ∀ k u, xs[k]? = some u → w.cell? ⟨b, off + k, none⟩ = some u

theorem Row.nil (w : World) (B : Nat) (A : Option Addr) : Row w B A [] := ⟨fun h => absurd h (by simp)⟩

theorem Row.keep {w w' : World} {B : Nat} {A : Option Addr} {xs : List Value} (h : Row w B A xs) (hk : ∀ p : Addr, p.block < B → w'.cell? p = w.cell? p) : Row w' B A xs :=
  ⟨fun hn => by
    obtain ⟨b, off, e, hb, hc⟩ := h.cells hn
    exact ⟨b, off, e, hb, fun k u hu => (hk ⟨b, off + k, none⟩ hb).trans (hc k u hu)⟩⟩

theorem Row.more {w : World} {B B' : Nat} {A : Option Addr} {xs : List Value} (h : Row w B A xs) (hB : B ≤ B') : Row w B' A xs :=
  ⟨fun hn => by
    obtain ⟨b, off, e, hb, hc⟩ := h.cells hn
    exact ⟨b, off, e, Nat.lt_of_lt_of_le hb hB, hc⟩⟩

theorem Row.below {w w' : World} {B : Nat} {A : Option Addr} {xs : List Value} (h : Row w B A xs) (hb : Below B w w') : Row w' B A xs := h.keep fun _ hp => hb.cell hp

theorem Row.alloc {w : World} {B : Nat} {A : Option Addr} {xs : List Value} (h : Row w B A xs) (hB : B ≤ w.heap.size) (o : Obj) : Row (w.alloc o) B A xs :=
  h.keep fun p hp => World.cell?_alloc_lt w o p (by omega)

/-- words: numbers of 64 bits -/
structure Words (w : World) (B : Nat) (A : Option Addr) (ws : List Nat) : Prop where
  row : Row w B A (ws.map fun (x : Nat) => Value.int .u64 (x : Int))
  lt : ∀ x ∈ ws, x < 2 ^ 64

theorem Words.below {w w' : World} {B : Nat} {A : Option Addr} {ws : List Nat} (h : Words w B A ws) (hb : Below B w w') : Words w' B A ws := ⟨h.row.below hb, h.lt⟩
theorem Words.more {w : World} {B B' : Nat} {A : Option Addr} {ws : List Nat} (h : Words w B A ws) (hB : B ≤ B') : Words w B' A ws := ⟨h.row.more hB, h.lt⟩
theorem Words.alloc {w : World} {B : Nat} {A : Option Addr} {ws : List Nat} (h : Words w B A ws) (hB : B ≤ w.heap.size) (o : Obj) : Words (w.alloc o) B A ws := ⟨h.row.alloc hB o, h.lt⟩
theorem Row.drewN {w : World} {B : Nat} {A : Option Addr} {xs : List Value} (h : Row w B A xs) (n : Nat) : Row (w.drewN n) B A xs := h.keep fun _ _ => rfl
theorem Words.drewN {w : World} {B : Nat} {A : Option Addr} {ws : List Nat} (h : Words w B A ws) (n : Nat) : Words (w.drewN n) B A ws := ⟨h.row.drewN n, h.lt⟩
theorem Words.nil (w : World) (B : Nat) (A : Option Addr) : Words w B A [] := ⟨Row.nil w B A, fun _ h => by cases h⟩

/-- a word, by its place: the cell, under a name of its own -/
theorem Words.at_ {w : World} {B : Nat} {A : Option Addr} {ws : List Nat} (h : Words w B A ws) {k : Nat} (hk : k < ws.length) :
    ∃ b off x, A = some ⟨b, off, none⟩ ∧ b < B ∧ w.cell? ⟨b, off + k, none⟩ = some (.int .u64 ((x : Nat) : Int)) ∧ Hid (x = ws.getD k 0 ∧ x < 2 ^ 64) := by
  obtain ⟨b, off, e, hb, hc⟩ := h.row.cells (by simp; omega)
  refine ⟨b, off, ws.getD k 0, e, hb, hc k _ ?_, Lib.hid ⟨rfl, ?_⟩⟩
  · rw [List.getElem?_map, List.getElem?_eq_getElem hk, List.getD_eq_getElem?_getD, List.getElem?_eq_getElem hk]; rfl
  · rw [List.getD_eq_getElem?_getD, List.getElem?_eq_getElem hk]; exact h.lt _ (List.getElem_mem hk)

/-- numbers of int -/
structure Ints (w : World) (B : Nat) (A : Option Addr) (zs : List Int) : Prop where
  row : Row w B A (zs.map fun x => Value.int .i64 x)
  lo : ∀ x ∈ zs, -9223372036854775808 ≤ x ∧ x ≤ 9223372036854775807

theorem Ints.below {w w' : World} {B : Nat} {A : Option Addr} {zs : List Int} (h : Ints w B A zs) (hb : Below B w w') : Ints w' B A zs := ⟨h.row.below hb, h.lo⟩
theorem Ints.more {w : World} {B B' : Nat} {A : Option Addr} {zs : List Int} (h : Ints w B A zs) (hB : B ≤ B') : Ints w B' A zs := ⟨h.row.more hB, h.lo⟩
theorem Ints.alloc {w : World} {B : Nat} {A : Option Addr} {zs : List Int} (h : Ints w B A zs) (hB : B ≤ w.heap.size) (o : Obj) : Ints (w.alloc o) B A zs := ⟨h.row.alloc hB o, h.lo⟩
theorem Ints.at_ {w : World} {B : Nat} {A : Option Addr} {zs : List Int} (h : Ints w B A zs) {k : Nat} (hk : k < zs.length) :
    ∃ b off x, A = some ⟨b, off, none⟩ ∧ b < B ∧ w.cell? ⟨b, off + k, none⟩ = some (.int .i64 x) ∧ Hid (x = zs.getD k 0 ∧ -9223372036854775808 ≤ x ∧ x ≤ 9223372036854775807) := by
  obtain ⟨b, off, e, hb, hc⟩ := h.row.cells (by simp; omega)
  refine ⟨b, off, zs.getD k 0, e, hb, hc k _ ?_, Lib.hid ⟨rfl, ?_⟩⟩
  · rw [List.getElem?_map, List.getElem?_eq_getElem hk, List.getD_eq_getElem?_getD, List.getElem?_eq_getElem hk]; rfl
  · rw [List.getD_eq_getElem?_getD, List.getElem?_eq_getElem hk]; exact h.lo _ (List.getElem_mem hk)

theorem bDrew {B : Nat} {a w : World} (h : Below B a w) (n : Nat) : Below B a (w.drewN n) := ⟨h.os, h.tape, h.output, h.size, h.block⟩
/-- a box of the call's own, and draws -/
theorem bBox (w : World) (o : Obj) (n : Nat) : Below w.heap.size w ((w.alloc o).drewN n) := bDrew ((Below.refl _ _).alloc (Nat.le_refl _) _) n
theorem wrap_nat {n : Nat} (h : n < 2 ^ 64) : IntKind.u64.wrap (n : Int) = (n : Int) := by rw [IntKind.wrap_u64]; omega
theorem ret_int {k : IntKind} {a b : Int} (h : a = b) : Ending.returned (.int k a) = .returned (.int k b) := by rw [h]
theorem ret_bool {a b : Bool} (h : a = b) : Ending.returned (.bool a) = .returned (.bool b) := by rw [h]
end Go.Proofs.YtckenemkfegopaaDoor
