/- Walks: the reference's counts over an expression. -/
import Derived.Test.YtmemkcaikajnnaaGreatDoorRp
import Derived.Test.YtmemkcaikajnnaaGreatDoorCf
namespace Go.Proofs.YtmemkcaikajnnaaGreatDoor
open Go.RowKit Go.Sort
set_option linter.unusedVariables false

/-- the box of an expression, new memory behind it -/
structure Eb (w wr : World) (e : E) : Prop where
  be : Blk wr w.heap.size e.box
  bel : Below w.heap.size w wr
theorem Eb.start (w : World) (e : E) (T : TypeId) : Eb w (w.alloc (.cells e.box T)) e := ⟨Blk.new_ _ _ _, al1 _ _⟩
theorem Eb.below {w wr w' : World} {e : E} (h : Eb w wr e) (hb : Below wr.heap.size wr w') : Eb w w' e := ⟨h.be.below hb h.be.lt, bTrans h.bel hb⟩
theorem Eb.c3 {w wr : World} {e : E} (h : Eb w wr e) : wr.cell? ⟨w.heap.size, 3, none⟩ = some (.slice e.ad e.ks.length e.cap) := h.be.c 3 rfl
/-- a kid, read in a later world -/
theorem Eb.kid {w wr : World} {e k : E} (h : Eb w wr e) (hk : E.In wr w.heap.size k) : E.In wr wr.heap.size k := hk.more h.bel.size

end Go.Proofs.YtmemkcaikajnnaaGreatDoor
