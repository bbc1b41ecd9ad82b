/- What a law over a made lattice holds. -/
import Derived.Test.YtcckocaaoklibaaNd
namespace Go.Proofs.Ytcckocaaoklibaa
open Go.RowKit Go.Maps
set_option linter.unusedVariables false

/-- a law's world: its boxed argument, the reference's lattice in its box, both lattices -/
structure LawW (w wx : World) (xs : Array Value) (b8 lb : Nat) (An : Option Addr) (cn : Nat) (Al : Option Addr) (cl : Nat) (ns : List ByteArray) (L : Nat → Nat → Bool) : Prop where
  T : ∃ Ty, wx.heap[w.heap.size]? = some (.cells xs Ty (0, 0))
  R : Two wx b8 (.slice An ns.length cn) (.slice Al ns.length cl)
  B : Both wx lb An cn Al cl ns L
  bel : Below w.heap.size w wx
  lt : w.heap.size < wx.heap.size
section
variable {w wx wy : World} {xs : Array Value} {b8 lb : Nat} {An : Option Addr} {cn : Nat} {Al : Option Addr} {cl : Nat} {ns : List ByteArray} {L : Nat → Nat → Bool}
theorem LawW.below (h : LawW w wx xs b8 lb An cn Al cl ns L) (hb : Below wx.heap.size wx wy) : LawW w wy xs b8 lb An cn Al cl ns L := by
  obtain ⟨Ty, hT⟩ := h.T
  exact ⟨⟨Ty, (hb.block _ h.lt).trans hT⟩, h.R.below hb h.R.lt, h.B.below hb, h.bel.trans (hb.mono h.bel.size), Nat.lt_of_lt_of_le h.lt hb.size⟩
theorem LawW.cell (h : LawW w wx xs b8 lb An cn Al cl ns L) {k : Nat} {v : Value} (hk : xs[k]? = some v) : wx.cell? ⟨w.heap.size, k, none⟩ = some v := by
  obtain ⟨Ty, hT⟩ := h.T
  rw [cell_of_row _ _ _ _ _ _ hT]; exact hk
/-- the boxed argument, before the lattices are made -/
structure BoxW (w wx : World) (xs : Array Value) : Prop where
  T : ∃ Ty, wx.heap[w.heap.size]? = some (.cells xs Ty (0, 0))
  bel : Below w.heap.size w wx
  lt : w.heap.size < wx.heap.size
theorem BoxW.new_ (w : World) (xs : Array Value) (Ty : TypeId) : BoxW w (w.alloc (.cells xs Ty)) xs := ⟨⟨Ty, heap_alloc_new w _⟩, al1 _ _, (Array.getElem?_eq_some_iff.1 (heap_alloc_new w (.cells xs Ty))).1⟩
theorem BoxW.below (h : BoxW w wx xs) (hb : Below wx.heap.size wx wy) : BoxW w wy xs := by
  obtain ⟨Ty, hT⟩ := h.T
  exact ⟨⟨Ty, (hb.block _ h.lt).trans hT⟩, h.bel.trans (hb.mono h.bel.size), Nat.lt_of_lt_of_le h.lt hb.size⟩
theorem BoxW.cell (h : BoxW w wx xs) {k : Nat} {v : Value} (hk : xs[k]? = some v) : wx.cell? ⟨w.heap.size, k, none⟩ = some v := by
  obtain ⟨Ty, hT⟩ := h.T
  rw [cell_of_row _ _ _ _ _ _ hT]; exact hk
theorem BoxW.law (h : BoxW w wx xs) (B : Both wx lb An cn Al cl ns L) (Ty : TypeId) : LawW w (wx.alloc (.cells #[.slice An ns.length cn, .slice Al ns.length cl] Ty)) xs wx.heap.size lb An cn Al cl ns L := by
  have b := al1 wx (.cells #[.slice An ns.length cn, .slice Al ns.length cl] Ty)
  have h2 := h.below b
  exact ⟨h2.T, Two.new_ _ _ _ _, B.below b, h2.bel, h2.lt⟩
end
theorem quiet_of_eq {P : Program} {f : FuncId} {args : Array Value} {w : World} {n : Nat} {v : Value}
    (h : Calls P f args (w.drewN n) fun e w' => e = .returned v ∧ w.drewN n = w') : Calls P f args (w.drewN n) fun e w'' => e = .returned v ∧ ∃ m, w'' = w.drewN m :=
  h.mono fun _ _ ⟨he, hm⟩ => ⟨he, n, hm.symm⟩
theorem lvB_nat' {z : Int} {n : Nat} (h : lvB z n = true) : ∃ i : Nat, z = (i : Int) ∧ i < n := Kl.lvB_nat h
end Go.Proofs.Ytcckocaaoklibaa
