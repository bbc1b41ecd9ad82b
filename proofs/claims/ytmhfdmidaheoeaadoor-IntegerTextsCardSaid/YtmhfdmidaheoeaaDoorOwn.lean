/- Rows of numbers that a call has made itself; what functions hand back. -/
import Derived.Test.YtmhfdmidaheoeaaDoorMem
import Derived.Test.YtmhfdmidaheoeaaDoorMath
import Derived.Deep.OwnRows
namespace Go.Proofs.YtmhfdmidaheoeaaDoor
open Go.RowKit
set_option linter.unusedVariables false

/-- numbers as cells -/
def ncells (κ : IntKind) (ws : List Nat) : Array Value := (ws.map fun (x : Nat) => Value.int κ (x : Int)).toArray

theorem ncells_made (κ : IntKind) (n : Nat) : madeCells #[.int κ 0] n = ncells κ (List.replicate n 0) := by
  apply Array.ext
  · simp [madeCells, ncells]
  · intro i h1 h2
    simp [madeCells, ncells, Nat.mod_one]

/-- the block g is just the numbers ws, not frozen -/
def Blk (κ : IntKind) (T : TypeId) (w : World) (g : Nat) (ws : List Nat) : Prop := w.heap[g]? = some (.cells (ncells κ ws) T (0, 0))
section
variable {κ : IntKind} {T : TypeId} {w w' : World} {g B : Nat} {ws : List Nat}
theorem Blk.lt (h : Blk κ T w g ws) : g < w.heap.size := (Array.getElem?_eq_some_iff.1 h).1
theorem Blk.cell (h : Blk κ T w g ws) {k : Nat} (hk : k < ws.length) : w.cell? ⟨g, k, none⟩ = some (.int κ ((ws.getD k 0 : Nat) : Int)) := by
  rw [cell_of_row w g k _ _ _ h]
  simp [ncells, hk, List.getD_eq_getElem?_getD]
theorem Blk.frozen (h : Blk κ T w g ws) (k : Nat) : w.frozen? ⟨g, k, none⟩ = false := frozen_of_row w g k _ _ h
theorem Blk.new_ (κ : IntKind) (T : TypeId) (w : World) (ws : List Nat) : Blk κ T (w.alloc (.cells (ncells κ ws) T)) w.heap.size ws := heap_alloc_new w _
theorem Blk.alloc (h : Blk κ T w g ws) (o : Obj) : Blk κ T (w.alloc o) g ws := (Below.heap_alloc w o g h.lt).trans h
theorem Blk.drewN (h : Blk κ T w g ws) (n : Nat) : Blk κ T (w.drewN n) g ws := h
theorem Blk.drew (h : Blk κ T w g ws) : Blk κ T w.drew g ws := h
theorem Blk.below (h : Blk κ T w g ws) (hb : Below B w w') (hg : g < B) : Blk κ T w' g ws := (hb.block g hg).trans h
theorem Blk.far (h : Blk κ T w g ws) {p : Addr} (hp : g ≠ p.block) (u : Value) : Blk κ T (w.setCell p u) g ws := (Below.heap_setCell w p u g hp).trans h
theorem Blk.set_ (h : Blk κ T w g ws) (k x : Nat) : Blk κ T (w.setCell ⟨g, k, none⟩ (.int κ (x : Int))) g (ws.set k x) := by
  have h' : w.heap[g]? = some (.cells (ncells κ ws) T (0, 0)) := h
  show ((w.setCell ⟨g, k, none⟩ (.int κ (x : Int))).heap)[g]? = some (.cells (ncells κ (ws.set k x)) T (0, 0))
  have e : ncells κ (ws.set k x) = (ncells κ ws).setIfInBounds k (.int κ (x : Int)) := by
    unfold ncells
    rw [List.map_set]
    simp
  rw [e]
  simp [World.setCell, Array.getElem?_modify, h']
theorem Blk.nums (h : Blk κ T w g ws) (hg : g < B) : Nums κ w B (some ⟨g, 0, none⟩) ws :=
  ⟨⟨fun _ => ⟨g, 0, rfl, hg, fun k u hu => by
    rw [Nat.zero_add, cell_of_row w g k _ _ _ h]
    simpa [ncells] using hu⟩⟩⟩
end

/-- a row that is owned reads as its cells -/
theorem Row.of_own {w : World} {base e : Nat} {A : Option Addr} {n c : Nat} {xs : List Value} (h : w.ownsRow base e 1 (.slice A n c) n xs) : Row w w.heap.size A xs := ⟨fun hn => by
  rcases h.2 with ⟨_, h0⟩ | ⟨g, cap, cur, hv, _, hg, _⟩
  · have := h.1; omega
  · injection hv with h1 h2 h3
    subst h1
    exact ⟨g, 0, rfl, (Array.getElem?_eq_some_iff.1 hg).1, fun k u hu => by
      have := h.cells (g := g) rfl k u hu
      have e : (⟨g, 0, none⟩ : Addr).add k = ⟨g, 0 + k, none⟩ := by unfold Addr.add; split <;> simp_all
      rwa [e] at this⟩⟩

/-- the block b holds the two values x and y -/
structure Two (w : World) (b : Nat) (x y : Value) : Prop where
  blk : ∃ T, w.heap[b]? = some (.cells #[x, y] T (0, 0))

section
variable {w w' : World} {b : Nat} {x y : Value}
theorem Two.lt (h : Two w b x y) : b < w.heap.size := by obtain ⟨T, h⟩ := h.blk; exact (Array.getElem?_eq_some_iff.1 h).1
theorem Two.c0 (h : Two w b x y) : w.cell? ⟨b, 0, none⟩ = some x := by obtain ⟨T, h⟩ := h.blk; rw [cell_of_row w b 0 _ _ _ h]; rfl
theorem Two.c1 (h : Two w b x y) : w.cell? ⟨b, 1, none⟩ = some y := by obtain ⟨T, h⟩ := h.blk; rw [cell_of_row w b 1 _ _ _ h]; rfl
theorem Two.fr (h : Two w b x y) (k : Nat) : w.frozen? ⟨b, k, none⟩ = false := by obtain ⟨T, h⟩ := h.blk; exact frozen_of_row w b k _ _ h
theorem Two.new_ (w : World) (x y : Value) (T : TypeId) : Two (w.alloc (.cells #[x, y] T)) w.heap.size x y := ⟨T, heap_alloc_new w _⟩
theorem Two.alloc (h : Two w b x y) (o : Obj) : Two (w.alloc o) b x y := by
  have hl := h.lt
  obtain ⟨T, h⟩ := h.blk
  exact ⟨T, (Below.heap_alloc w o b hl).trans h⟩
theorem Two.drewN (h : Two w b x y) (n : Nat) : Two (w.drewN n) b x y := ⟨h.blk⟩
theorem Two.drew (h : Two w b x y) : Two w.drew b x y := ⟨h.blk⟩
theorem Two.below {B : Nat} (h : Two w b x y) (hb : Below B w w') (hB : b < B) : Two w' b x y := by
  obtain ⟨T, h⟩ := h.blk
  exact ⟨T, (hb.block b hB).trans h⟩
theorem Two.far (h : Two w b x y) {p : Addr} (hp : b ≠ p.block) (u : Value) : Two (w.setCell p u) b x y := by
  obtain ⟨T, h⟩ := h.blk
  exact ⟨T, (Below.heap_setCell w p u b hp).trans h⟩
theorem Two.put (h : Two w b x y) (u v : Value) : Two ((w.setCell ⟨b, 0, none⟩ u).setCell ⟨b, 1, none⟩ v) b u v := by
  obtain ⟨T, h⟩ := h.blk
  exact ⟨T, by simp [World.setCell, Array.getElem?_modify, h]⟩
end

/-- a slice of words that reads as the list ws -/
structure Sl (w : World) (B : Nat) (A : Option Addr) (c : Nat) (ws : List Nat) : Prop where
  nums : Nums .u32 w B A ws
  wd : Kn.Wd ws
  cap : ws.length ≤ c
  nil0 : A = none → c = 0
section
variable {w w' : World} {B B' : Nat} {A : Option Addr} {c : Nat} {ws : List Nat}
theorem Sl.below (h : Sl w B A c ws) (hb : Below B w w') : Sl w' B A c ws := ⟨h.nums.below hb, h.wd, h.cap, h.nil0⟩
theorem Sl.more (h : Sl w B A c ws) (hB : B ≤ B') : Sl w B' A c ws := ⟨h.nums.more hB, h.wd, h.cap, h.nil0⟩
theorem Sl.alloc (h : Sl w B A c ws) (hB : B ≤ w.heap.size) (o : Obj) : Sl (w.alloc o) B A c ws := ⟨h.nums.alloc hB o, h.wd, h.cap, h.nil0⟩
theorem Sl.drewN (h : Sl w B A c ws) (n : Nat) : Sl (w.drewN n) B A c ws := ⟨h.nums.drewN n, h.wd, h.cap, h.nil0⟩
theorem Sl.drew (h : Sl w B A c ws) : Sl w.drew B A c ws := ⟨h.nums.drew, h.wd, h.cap, h.nil0⟩
theorem Sl.nil (w : World) (B : Nat) : Sl w B none 0 [] := ⟨Nums.nil _ w B none, Kn.Wd.nil, Nat.zero_le _, fun _ => rfl⟩
theorem Sl.take (h : Sl w B A c ws) (k : Nat) : Sl w B A c (ws.take k) := ⟨h.nums.take k, h.wd.take k, Nat.le_trans (List.length_take_le' _ _) h.cap, h.nil0⟩
/-- to a later world -/
theorem Sl.at_ (h : Sl w B A c ws) (hb : Below w.heap.size w w') (hB : B ≤ w.heap.size) : Sl w' w'.heap.size A c ws := (h.below (hb.mono hB)).more (Nat.le_trans hB hb.size)
theorem Sl.word (h : Sl w B A c ws) {k : Nat} (hk : k < ws.length) :
    ∃ b off x, A = some ⟨b, off, none⟩ ∧ b < B ∧ w.cell? ⟨b, off + k, none⟩ = some (.int .u32 ((x : Nat) : Int)) ∧ Hid (x = ws.getD k 0) ∧ x < 4294967296 := by
  obtain ⟨b, off, x, e, hb, hc, hx⟩ := h.nums.at_ hk
  exact ⟨b, off, x, e, hb, hc, hx, by rw [hx.out]; exact h.wd.getD k⟩
end

/-- an integer as a value -/
abbrev intV (neg : Bool) (A : Option Addr) (n c : Nat) : Value := .agg #[.bool neg, .slice A n c]

/-- the integer z in canonical form -/
def IntRes (z : Int) (w : World) (e : Ending) (w' : World) : Prop :=
  ∃ A c, e = .returned (.agg #[.bool (decide (z < 0)), .slice A (Kn.dig z.natAbs).length c]) ∧ Sl w' w'.heap.size A c (Kn.dig z.natAbs) ∧ Below w.heap.size w w'
/-- the magnitude n -/
def MagRes (n : Nat) (w : World) (e : Ending) (w' : World) : Prop :=
  ∃ A c, e = .returned (.slice A (Kn.dig n).length c) ∧ Sl w' w'.heap.size A c (Kn.dig n) ∧ Below w.heap.size w w'
end Go.Proofs.YtmhfdmidaheoeaaDoor
