/- Walks: the reference's All; rows of Booleans. -/
import Derived.Test.YtckenemkfegopaaDoorWl
namespace Go.Proofs.YtckenemkfegopaaDoor
open Go.RowKit
set_option linter.unusedVariables false

theorem bcells_congr {f g : Nat → Bool} {n : Nat} (h : ∀ j, j < n → f j = g j) : bcells f n = bcells g n := by
  unfold bcells
  exact List.map_congr_left fun j hj => by rw [h j (List.mem_range.1 hj)]

/-- the block g is just these cells, of type bool, not frozen -/
def BBlk (w : World) (g : Nat) (xs : List Value) : Prop := w.heap[g]? = some (.cells xs.toArray 4 (0, 0))
theorem BBlk.lt {w : World} {g : Nat} {xs : List Value} (h : BBlk w g xs) : g < w.heap.size := (Array.getElem?_eq_some_iff.1 h).1
theorem BBlk.cell {w : World} {g : Nat} {xs : List Value} (h : BBlk w g xs) {k : Nat} {v : Value} (hk : xs[k]? = some v) : w.cell? ⟨g, k, none⟩ = some v := by
  rw [cell_of_row w g k _ _ _ h]
  simpa using hk
theorem BBlk.frozen {w : World} {g : Nat} {xs : List Value} (h : BBlk w g xs) (k : Nat) : w.frozen? ⟨g, k, none⟩ = false := frozen_of_row w g k _ _ h
theorem BBlk.new_ (w : World) (xs : List Value) : BBlk (w.alloc (.cells xs.toArray 4)) w.heap.size xs := heap_alloc_new w _
theorem BBlk.set_ {w : World} {g : Nat} {xs : List Value} (h : BBlk w g xs) (k : Nat) (v : Value) : BBlk (w.setCell ⟨g, k, none⟩ v) g (xs.set k v) := by
  have h' : w.heap[g]? = some (.cells xs.toArray 4 (0, 0)) := h
  show ((w.setCell ⟨g, k, none⟩ v).heap)[g]? = some (.cells (xs.set k v).toArray 4 (0, 0))
  have e : (xs.set k v).toArray = xs.toArray.setIfInBounds k v := by simp
  rw [e]
  simp [World.setCell, Array.getElem?_modify, h']
theorem BBlk.row {w : World} {g B : Nat} {xs : List Value} (h : BBlk w g xs) (hg : g < B) : Row w B (some ⟨g, 0, none⟩) xs :=
  ⟨fun _ => ⟨g, 0, rfl, hg, fun k u hu => by rw [Nat.zero_add]; exact h.cell hu⟩⟩
theorem Row.far {w : World} {B : Nat} {A : Option Addr} {xs : List Value} (h : Row w B A xs) {p : Addr} (hp : B ≤ p.block) (u : Value) : Row (w.setCell p u) B A xs :=
  h.keep fun q hq => World.cell?_of_block (w := w) (Below.heap_setCell w p u q.block (by omega))
theorem bcells_false (n : Nat) : List.replicate n (Value.bool false) = bcells (fun _ => false) n := by
  unfold bcells
  exact (List.map_const' ..).symm ▸ by simp
theorem bcells_at (f : Nat → Bool) {n k : Nat} (hk : k < n) : (bcells f n)[k]? = some (.bool (f k)) := by
  unfold bcells; rw [List.getElem?_map, List.getElem?_range hk]; rfl

theorem makeBools (n : Nat) (hn : n ≤ 4096) (W : World) : (Instr.makeSlice 122 (.int .i64 (n : Int)) (.int .i64 (n : Int))).run Tryd.prog W = .ok (.slice (some ⟨W.heap.size, 0, none⟩) n n) (W.alloc (.cells (bcells (fun _ => false) n).toArray 4)) := by
  have h := run_make_row' (P := Tryd.prog) 122 4 (.bool false) 1 Tryd.underlying122 (by kernel_rfl) rfl .i64 .i64 n (by omega) (by omega) W
  have e : madeCells #[.bool false] n = (bcells (fun _ => false) n).toArray := by
    apply Array.ext
    · simp [madeCells, bcells]
    · intro i h1 h2
      simp [madeCells, bcells, Nat.mod_one]
  rw [e] at h
  exact h

/-- All's world in the loop -/
structure AlInv (w wr : World) (g n : Nat) (h : Nat → Bool) : Prop where
  t : Two wr w.heap.size (.int .i64 0) (.slice none 0 0)
  row : BBlk wr g (bcells h n)
  hg : w.heap.size < g
  bel : Below w.heap.size w wr

end Go.Proofs.YtckenemkfegopaaDoor
