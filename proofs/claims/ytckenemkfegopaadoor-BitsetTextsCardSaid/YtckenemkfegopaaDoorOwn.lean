/- Rows of words that a call has made itself; what functions hand back. -/
import Derived.Test.YtckenemkfegopaaDoorMem
import Derived.Test.YtckenemkfegopaaDoorMath
import Derived.Deep.OwnRows
namespace Go.Proofs.YtckenemkfegopaaDoor
open Go.RowKit
set_option linter.unusedVariables false

/-- words as cells -/
def wcells (ws : List Nat) : Array Value := (ws.map fun (x : Nat) => Value.int .u64 (x : Int)).toArray

theorem wcells_made (n : Nat) : madeCells #[.int .u64 0] n = wcells (List.replicate n 0) := by
  apply Array.ext
  · simp [madeCells, wcells]
  · intro i h1 h2
    simp [madeCells, wcells, Nat.mod_one]

/-- the block g is just the words ws, not frozen -/
def WBlk (w : World) (g : Nat) (ws : List Nat) : Prop := w.heap[g]? = some (.cells (wcells ws) 57 (0, 0))

theorem WBlk.lt {w : World} {g : Nat} {ws : List Nat} (h : WBlk w g ws) : g < w.heap.size := (Array.getElem?_eq_some_iff.1 h).1
theorem WBlk.cell {w : World} {g : Nat} {ws : List Nat} (h : WBlk w g ws) {k : Nat} (hk : k < ws.length) : w.cell? ⟨g, k, none⟩ = some (.int .u64 ((ws.getD k 0 : Nat) : Int)) := by
  rw [cell_of_row w g k _ _ _ h]
  simp [wcells, hk, List.getD_eq_getElem?_getD]
theorem WBlk.frozen {w : World} {g : Nat} {ws : List Nat} (h : WBlk w g ws) (k : Nat) : w.frozen? ⟨g, k, none⟩ = false := frozen_of_row w g k _ _ h
theorem WBlk.new_ (w : World) (ws : List Nat) : WBlk (w.alloc (.cells (wcells ws) 57)) w.heap.size ws := heap_alloc_new w _
theorem WBlk.alloc {w : World} {g : Nat} {ws : List Nat} (h : WBlk w g ws) (o : Obj) : WBlk (w.alloc o) g ws := (Below.heap_alloc w o g h.lt).trans h
theorem WBlk.drewN {w : World} {g : Nat} {ws : List Nat} (h : WBlk w g ws) (n : Nat) : WBlk (w.drewN n) g ws := h
theorem WBlk.drew {w : World} {g : Nat} {ws : List Nat} (h : WBlk w g ws) : WBlk w.drew g ws := h
theorem WBlk.below {w w' : World} {g B : Nat} {ws : List Nat} (h : WBlk w g ws) (hb : Below B w w') (hg : g < B) : WBlk w' g ws := (hb.block g hg).trans h
theorem WBlk.far {w : World} {g : Nat} {ws : List Nat} (h : WBlk w g ws) {p : Addr} (hp : g ≠ p.block) (u : Value) : WBlk (w.setCell p u) g ws := (Below.heap_setCell w p u g hp).trans h
theorem WBlk.set_ {w : World} {g : Nat} {ws : List Nat} (h : WBlk w g ws) (k x : Nat) : WBlk (w.setCell ⟨g, k, none⟩ (.int .u64 (x : Int))) g (ws.set k x) := by
  have h' : w.heap[g]? = some (.cells (wcells ws) 57 (0, 0)) := h
  show ((w.setCell ⟨g, k, none⟩ (.int .u64 (x : Int))).heap)[g]? = some (.cells (wcells (ws.set k x)) 57 (0, 0))
  have e : wcells (ws.set k x) = (wcells ws).setIfInBounds k (.int .u64 (x : Int)) := by
    unfold wcells
    rw [List.map_set]
    simp
  rw [e]
  simp [World.setCell, Array.getElem?_modify, h']
theorem WBlk.words {w : World} {g B : Nat} {ws : List Nat} (h : WBlk w g ws) (hg : g < B) (hlt : ∀ x ∈ ws, x < 2 ^ 64) : Words w B (some ⟨g, 0, none⟩) ws :=
  ⟨⟨fun _ => ⟨g, 0, rfl, hg, fun k u hu => by
    rw [Nat.zero_add, cell_of_row w g k _ _ _ h]
    simpa [wcells] using hu⟩⟩, hlt⟩

/-- a row that is owned reads as its cells -/
theorem Row.of_own {w : World} {base e : Nat} {A : Option Addr} {n c : Nat} {xs : List Value} (h : w.ownsRow base e 1 (.slice A n c) n xs) : Row w w.heap.size A xs := ⟨fun hn => by
  rcases h.2 with ⟨_, h0⟩ | ⟨g, cap, cur, hv, _, hg, _⟩
  · have := h.1; omega
  · injection hv with h1 h2 h3
    subst h1
    exact ⟨g, 0, rfl, (Array.getElem?_eq_some_iff.1 hg).1, fun k u hu => by
      have := h.cells (g := g) rfl k u hu
      have e : (⟨g, 0, none⟩ : Addr).add k = ⟨g, 0 + k, none⟩ := by unfold Addr.add; split <;> simp_all
      rwa [e] at this⟩⟩

/-- the block b holds the two values x and y -/
structure Two (w : World) (b : Nat) (x y : Value) : Prop where
  blk : ∃ T, w.heap[b]? = some (.cells #[x, y] T (0, 0))

section
variable {w w' : World} {b : Nat} {x y : Value}
theorem Two.lt (h : Two w b x y) : b < w.heap.size := by obtain ⟨T, h⟩ := h.blk; exact (Array.getElem?_eq_some_iff.1 h).1
theorem Two.c0 (h : Two w b x y) : w.cell? ⟨b, 0, none⟩ = some x := by obtain ⟨T, h⟩ := h.blk; rw [cell_of_row w b 0 _ _ _ h]; rfl
theorem Two.c1 (h : Two w b x y) : w.cell? ⟨b, 1, none⟩ = some y := by obtain ⟨T, h⟩ := h.blk; rw [cell_of_row w b 1 _ _ _ h]; rfl
theorem Two.fr (h : Two w b x y) (k : Nat) : w.frozen? ⟨b, k, none⟩ = false := by obtain ⟨T, h⟩ := h.blk; exact frozen_of_row w b k _ _ h
theorem Two.new_ (w : World) (x y : Value) (T : TypeId) : Two (w.alloc (.cells #[x, y] T)) w.heap.size x y := ⟨T, heap_alloc_new w _⟩
theorem Two.alloc (h : Two w b x y) (o : Obj) : Two (w.alloc o) b x y := by
  have hl := h.lt
  obtain ⟨T, h⟩ := h.blk
  exact ⟨T, (Below.heap_alloc w o b hl).trans h⟩
theorem Two.drewN (h : Two w b x y) (n : Nat) : Two (w.drewN n) b x y := ⟨h.blk⟩
theorem Two.drew (h : Two w b x y) : Two w.drew b x y := ⟨h.blk⟩
theorem Two.below {B : Nat} (h : Two w b x y) (hb : Below B w w') (hB : b < B) : Two w' b x y := by
  obtain ⟨T, h⟩ := h.blk
  exact ⟨T, (hb.block b hB).trans h⟩
theorem Two.far (h : Two w b x y) {p : Addr} (hp : b ≠ p.block) (u : Value) : Two (w.setCell p u) b x y := by
  obtain ⟨T, h⟩ := h.blk
  exact ⟨T, (Below.heap_setCell w p u b hp).trans h⟩
theorem Two.put (h : Two w b x y) (u v : Value) : Two ((w.setCell ⟨b, 0, none⟩ u).setCell ⟨b, 1, none⟩ v) b u v := by
  obtain ⟨T, h⟩ := h.blk
  exact ⟨T, by simp [World.setCell, Array.getElem?_modify, h]⟩
end

/-- a set as a value -/
def setV (size : Int) (A : Option Addr) (n c : Nat) : Value := .agg #[.int .i64 size, .slice A n c]

/-- a set and OK -/
def SetRes (n : Nat) (ws : List Nat) (w : World) (e : Ending) (w' : World) : Prop :=
  ∃ A c, e = .returned (.tuple #[setV n A ws.length c, .int .i64 0]) ∧ Words w' w'.heap.size A ws ∧ Below w.heap.size w w'
/-- no set, and a code -/
def ErrRes (code : Int) (w : World) (e : Ending) (w' : World) : Prop :=
  e = .returned (.tuple #[setV 0 none 0 0, .int .i64 code]) ∧ Below w.heap.size w w'
end Go.Proofs.YtckenemkfegopaaDoor
