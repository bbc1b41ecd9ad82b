/- The law BitsetChanges, walked: Has, With and Without answer as the reference does, for every set and every integer. -/
import Derived.Test.YtckenemkfegopaaDoorWa
import Derived.Test.YtckenemkfegopaaDoorWj
import Derived.Test.YtckenemkfegopaaDoorLawCompares
namespace Go.Proofs.YtckenemkfegopaaDoor
open Go.RowKit Go.Sort
set_option linter.unusedVariables false

/-- a set (or the zero value) and a code -/
def OutRes (sz : Int) (ws : List Nat) (code : Int) (w : World) (e : Ending) (w' : World) : Prop :=
  ∃ A c, e = .returned (.tuple #[setV sz A ws.length c, .int .i64 code]) ∧ Words w' w'.heap.size A ws ∧ Below w.heap.size w w'
theorem OutRes.of_set {n : Nat} {ws : List Nat} {w w' : World} {e : Ending} (h : SetRes n ws w e w') : OutRes n ws 0 w e w' := h
theorem OutRes.of_err {code : Int} {w w' : World} {e : Ending} (h : ErrRes code w e w') : OutRes 0 [] code w e w' := ⟨none, 0, h.1, Words.nil _ _ _, h.2⟩
theorem same_self (s : Int) (l : List Nat) : sameB s l s l = true := by unfold sameB; simp

/-- the law's world: the box and sets that were handed back -/
structure ChInv (w wr : World) (x y : Value) : Prop where
  t1 : Two wr w.heap.size x y
  bel : Below w.heap.size w wr
theorem ChInv.below {w wr wx : World} {x y : Value} (h : ChInv w wr x y) (hb : Below wr.heap.size wr wx) : ChInv w wx x y := ⟨h.t1.below hb h.t1.lt, h.bel.trans (hb.mono h.bel.size)⟩
theorem ChInv.alloc {w wr : World} {x y : Value} (h : ChInv w wr x y) (o : Obj) : ChInv w (wr.alloc o) x y := ⟨h.t1.alloc o, h.bel.alloc h.bel.size o⟩
/-- a kept set: its block and its words -/
structure Kept (wr : World) (b : Nat) (sz : Int) (A : Option Addr) (ws : List Nat) (c : Nat) : Prop where
  t : Two wr b (.int .i64 sz) (.slice A ws.length c)
  ws : Words wr wr.heap.size A ws
theorem Kept.below {wr wx : World} {b : Nat} {sz : Int} {A : Option Addr} {ws : List Nat} {c : Nat} (h : Kept wr b sz A ws c) (hb : Below wr.heap.size wr wx) : Kept wx b sz A ws c := ⟨h.t.below hb h.t.lt, (h.ws.below hb).more hb.size⟩
theorem Kept.alloc {wr : World} {b : Nat} {sz : Int} {A : Option Addr} {ws : List Nat} {c : Nat} (h : Kept wr b sz A ws c) (o : Obj) : Kept (wr.alloc o) b sz A ws c := ⟨h.t.alloc o, (h.ws.alloc (Nat.le_refl _) o).more (by simp)⟩
theorem Kept.new_ {wr : World} {sz : Int} {A : Option Addr} {ws : List Nat} {c : Nat} (h : Words wr wr.heap.size A ws) (T : TypeId) : Kept (wr.alloc (.cells #[.int .i64 sz, .slice A ws.length c] T)) wr.heap.size sz A ws c := ⟨Two.new_ _ _ _ _, (h.alloc (Nat.le_refl _) _).more (by simp)⟩

end Go.Proofs.YtckenemkfegopaaDoor
