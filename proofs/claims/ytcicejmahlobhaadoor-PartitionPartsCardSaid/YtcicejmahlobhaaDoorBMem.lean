/- Slices that read as lists: small words for the walks over package bitset. Of no program. -/
import Derived.Test.YtcicejmahlobhaaDoorMem
import Derived.WalkKit
import Derived.WalkSpells
import Derived.WalkLawsBesides
import Derived.Deep.Draws
import Derived.Lib.Hide
namespace Go.Proofs.YtcicejmahlobhaaDoor.Bs
open Go.RowKit

/-- words: numbers of 64 bits -/
structure Words (w : World) (B : Nat) (A : Option Addr) (ws : List Nat) : Prop where
  row : Row w B A (ws.map fun (x : Nat) => Value.int .u64 (x : Int))
  lt : ∀ x ∈ ws, x < 2 ^ 64

theorem Words.below {w w' : World} {B : Nat} {A : Option Addr} {ws : List Nat} (h : Words w B A ws) (hb : Below B w w') : Words w' B A ws := ⟨h.row.below hb, h.lt⟩
theorem Words.more {w : World} {B B' : Nat} {A : Option Addr} {ws : List Nat} (h : Words w B A ws) (hB : B ≤ B') : Words w B' A ws := ⟨h.row.more hB, h.lt⟩
theorem Words.alloc {w : World} {B : Nat} {A : Option Addr} {ws : List Nat} (h : Words w B A ws) (hB : B ≤ w.heap.size) (o : Obj) : Words (w.alloc o) B A ws := ⟨h.row.alloc hB o, h.lt⟩
theorem Words.drewN {w : World} {B : Nat} {A : Option Addr} {ws : List Nat} (h : Words w B A ws) (n : Nat) : Words (w.drewN n) B A ws := ⟨h.row.drewN n, h.lt⟩
theorem Words.nil (w : World) (B : Nat) (A : Option Addr) : Words w B A [] := ⟨Row.nil w B A, fun _ h => by cases h⟩

/-- a word, by its place: the cell, under a name of its own -/
theorem Words.at_ {w : World} {B : Nat} {A : Option Addr} {ws : List Nat} (h : Words w B A ws) {k : Nat} (hk : k < ws.length) :
    ∃ b off x, A = some ⟨b, off, none⟩ ∧ b < B ∧ w.cell? ⟨b, off + k, none⟩ = some (.int .u64 ((x : Nat) : Int)) ∧ Hid (x = ws.getD k 0 ∧ x < 2 ^ 64) := by
  obtain ⟨b, off, e, hb, hc⟩ := h.row.cells (by simp; omega)
  refine ⟨b, off, ws.getD k 0, e, hb, hc k _ ?_, Lib.hid ⟨rfl, ?_⟩⟩
  · rw [List.getElem?_map, List.getElem?_eq_getElem hk, List.getD_eq_getElem?_getD, List.getElem?_eq_getElem hk]; rfl
  · rw [List.getD_eq_getElem?_getD, List.getElem?_eq_getElem hk]; exact h.lt _ (List.getElem_mem hk)

end Go.Proofs.YtcicejmahlobhaaDoor.Bs
