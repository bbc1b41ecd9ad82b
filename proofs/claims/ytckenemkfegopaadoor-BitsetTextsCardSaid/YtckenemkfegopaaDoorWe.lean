/- Walks: the reference's Flags and Make. -/
import Derived.Test.YtckenemkfegopaaDoorW9
namespace Go.Proofs.YtckenemkfegopaaDoor
open Go.RowKit
set_option linter.unusedVariables false

/-- flags as cells -/
def bcells (f : Nat → Bool) (k : Nat) : List Value := (List.range k).map fun i => Value.bool (f i)
theorem bcells_length (f : Nat → Bool) (k : Nat) : (bcells f k).length = k := by simp [bcells]
theorem bcells_succ (f : Nat → Bool) (k : Nat) : bcells f (k + 1) = bcells f k ++ [.bool (f k)] := by simp [bcells, List.range_succ]
theorem infoBool : (Tryd.prog.info? 4).map (fun i => (i.zero, i.size, i.bytes)) = some (some (.bool false), 1, 1) := by kernel_rfl
theorem infoU64 : (Tryd.prog.info? 57).map (fun i => (i.zero, i.size, i.bytes)) = some (some (.int .u64 0), 1, 8) := by kernel_rfl

/-- Flags' world in the loop -/
structure FlInv (w wr : World) (x y : Value) (v : Value) (k : Nat) (f : Nat → Bool) : Prop where
  t1 : Two wr w.heap.size x y
  own : wr.ownsRow (w.heap.size + 1) 4 1 v k (bcells f k)
  hz : w.heap.size + 1 ≤ wr.heap.size
  bel : Below w.heap.size w wr
theorem FlInv.drewN {w wr : World} {x y v : Value} {k : Nat} {f : Nat → Bool} (h : FlInv w wr x y v k f) (m : Nat) : FlInv w (wr.drewN m) x y v k f :=
  ⟨h.t1.drewN m, own_below h.own ⟨rfl, rfl, rfl, Nat.le_refl _, fun _ _ => rfl⟩, h.hz, bDrew h.bel m⟩
theorem FlInv.grown {w wr w3 : World} {x y v v' : Value} {k : Nat} {f : Nat → Bool} {o : Obj} (h : FlInv w wr x y v k f)
    (ho : w3.ownsRow (w.heap.size + 1) 4 1 v' (k + 1) (bcells f k ++ [.bool (f k)])) (hg : (wr.alloc o).grownBy w3 v.ownBlock) : FlInv w w3 x y v' (k + 1) f where
  t1 := by
    obtain ⟨T, hT⟩ := (h.t1.alloc o).blk
    have hne : some w.heap.size ≠ v.ownBlock := fun e => by
      have := (h.own.lt _ e.symm).1; omega
    exact ⟨T, (hg.block _ (h.t1.alloc o).lt hne).trans hT⟩
  own := by rw [bcells_succ]; exact ho
  hz := by have := hg.size; have := h.hz; simp at *; omega
  bel := (h.bel.alloc (by have := h.hz; omega) o).grown hg (by have := h.hz; simp; omega) (fun k e => by have := (h.own.lt k e).1; omega)

end Go.Proofs.YtckenemkfegopaaDoor
