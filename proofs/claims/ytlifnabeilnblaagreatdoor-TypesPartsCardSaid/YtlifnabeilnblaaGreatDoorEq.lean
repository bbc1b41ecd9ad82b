/- Walks: Equal of package types. -/
import Derived.Test.YtlifnabeilnblaaGreatDoorRp
import Derived.Test.YtlifnabeilnblaaGreatDoorDe
import Derived.Deep.DeepCutAuto
import Derived.Deep.RegionWith
namespace Go.Proofs.YtlifnabeilnblaaGreatDoor
open Go.RowKit Go.Sort
set_option linter.unusedVariables false

/-- the names of two types are the same -/
def nsB (l l' : List ByteArray) : Bool := decide (l = l')
theorem nsB_bad {l l' : List ByteArray} {i : Nat} (h : i < l.length) (h' : i < l'.length) (hn : l[i] ≠ l'[i]) : nsB l l' = false := by
  unfold nsB
  rw [decide_eq_false_iff_not]
  rintro rfl
  exact hn rfl
theorem nsB_good {l l' : List ByteArray} (hl : l.length = l'.length) (h : ∀ i, i < l.length → ∀ (h1 : i < l.length) (h2 : i < l'.length), l[i] = l'[i]) : nsB l l' = true := by
  unfold nsB
  rw [decide_eq_true_eq]
  exact List.ext_getElem hl fun i h1 h2 => h i h1 h1 h2
theorem str_eq {s t : ByteArray} : (s.toList == t.toList) = decide (s = t) := by
  rw [bs_toList, bs_toList, Bool.eq_iff_iff, beq_iff_eq, decide_eq_true_eq]
  exact ⟨bs_inj, fun h => by rw [h]⟩
theorem str_ne {s t : ByteArray} : (s.toList != t.toList) = decide (s ≠ t) := by
  unfold bne; rw [str_eq]; simp
/-- the boxes of Equal -/
structure QW (w wr : World) (e f : G) : Prop where
  be : Blk wr w.heap.size e.box
  bf : Blk wr (w.heap.size + 1) f.box
  bel : Below w.heap.size w wr
theorem QW.start (w : World) (e f : G) (T T' : TypeId) : QW w ((w.alloc (.cells e.box T)).alloc (.cells f.box T')) e f :=
  ⟨(Blk.new_ _ _ _).alloc _, by
    have := Blk.new_ (w.alloc (.cells e.box T)) f.box T'
    rwa [World.size_alloc] at this, (al1 w _).alloc (by simp) _⟩
theorem QW.below {w wr w' : World} {e f : G} (h : QW w wr e f) (hb : Below wr.heap.size wr w') : QW w w' e f := ⟨h.be.below hb h.be.lt, h.bf.below hb h.bf.lt, bTrans h.bel hb⟩
end Go.Proofs.YtlifnabeilnblaaGreatDoor
