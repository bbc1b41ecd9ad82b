/- Walks: CheckExpr of the reference. -/
import Derived.Test.YtmemkcaikajnnaaGreatDoorRc
import Derived.Test.YtmemkcaikajnnaaGreatDoorCg
import Derived.Deep.RegionWith
namespace Go.Proofs.YtmemkcaikajnnaaGreatDoor
open Go.RowKit Go.Sort
set_option linter.unusedVariables false

abbrev szV (n d : Nat) : Value := .agg #[.int .i64 (n : Int), .int .i64 (d : Int)]
theorem two_put {w : World} {b : Nat} {x y : Value} (h : Blk w b #[x, y]) (u v : Value) : Blk ((w.setCell ⟨b, 0, none⟩ u).setCell ⟨b, 1, none⟩ v) b #[u, v] := (h.put 0 u).put 1 v
theorem c2 {w : World} {b : Nat} {x y : Value} (h : Blk w b #[x, y]) : w.cell? ⟨b, 0, none⟩ = some x ∧ w.cell? ⟨b, 1, none⟩ = some y := ⟨h.c 0 rfl, h.c 1 rfl⟩
/-- the boxes of deeper: the size, the result -/
structure DeW (w wr : World) (n d : Nat) : Prop where
  bs : Blk wr w.heap.size #[.int .i64 (n : Int), .int .i64 (d : Int)]
  br : Blk wr (w.heap.size + 1) #[.int .i64 0, .int .i64 0]
  bel : Below w.heap.size w wr
theorem DeW.start (w : World) (n d : Nat) (T T' : TypeId) : DeW w ((w.alloc (.cells #[.int .i64 (n : Int), .int .i64 (d : Int)] T)).alloc (.cells #[.int .i64 0, .int .i64 0] T')) n d :=
  ⟨(Blk.new_ _ _ _).alloc _, by
    have := Blk.new_ (w.alloc (.cells #[.int .i64 (n : Int), .int .i64 (d : Int)] T)) #[.int .i64 0, .int .i64 0] T'
    rwa [World.size_alloc] at this, (al1 w _).alloc (by simp) _⟩
/-- the verdict -/
def vdC (n d : Nat) (f m u : Bool) : Int := if 1024 < n ∨ 12 < d then 4 else if !f then 1 else if !m then 7 else if !u then 3 else 0
/-- the boxes of addExpr: the size, the expression, the result -/
structure AxW (w wr : World) (e : E) (n : Nat) : Prop where
  bs : Blk wr w.heap.size #[.int .i64 (n : Int), .int .i64 0]
  be : Blk wr (w.heap.size + 1) e.box
  br : Blk wr (w.heap.size + 2) #[.int .i64 0, .int .i64 0]
  bel : Below w.heap.size w wr
theorem AxW.start (w : World) (e : E) (T T' T'' : TypeId) : AxW w (((w.alloc (.cells #[.int .i64 0, .int .i64 0] T)).alloc (.cells e.box T')).alloc (.cells #[.int .i64 0, .int .i64 0] T'')) e 0 :=
  ⟨((Blk.new_ _ _ _).alloc _).alloc _, by
    have := (Blk.new_ (w.alloc (.cells #[.int .i64 0, .int .i64 0] T)) e.box T').alloc (.cells #[.int .i64 0, .int .i64 0] T'')
    rwa [World.size_alloc] at this, by
    have := Blk.new_ ((w.alloc (.cells #[.int .i64 0, .int .i64 0] T)).alloc (.cells e.box T')) #[.int .i64 0, .int .i64 0] T''
    rwa [World.size_alloc, World.size_alloc] at this, ((al1 w _).alloc (by simp) _).alloc (by simp; omega) _⟩
theorem AxW.below {w wr w' : World} {e : E} {n : Nat} (h : AxW w wr e n) (hb : Below wr.heap.size wr w') : AxW w w' e n := ⟨h.bs.below hb h.bs.lt, h.be.below hb h.be.lt, h.br.below hb h.br.lt, bTrans h.bel hb⟩
theorem AxW.drew {w wr : World} {e : E} {n : Nat} (h : AxW w wr e n) : AxW w wr.drew e n := h.below (show Below wr.heap.size wr wr.drew from (Below.refl _ _).drew)
theorem AxW.put {w wr : World} {e : E} {n : Nat} (h : AxW w wr e n) (m : Nat) : AxW w (wr.setCell ⟨w.heap.size, 0, none⟩ (.int .i64 (m : Int))) e m :=
  ⟨h.bs.put 0 _, h.be.far (by simp) _, h.br.far (by simp) _, h.bel.setCell (by simp) _⟩
/-- the size with the nodes in it -/
def AxM (w : World) (e : E) (n : Nat) (w' : World) : Prop := AxW w w' e n
def AxE (w : World) (n d : Nat) (w' : World) : Prop := Blk w' (w.heap.size + 2) #[.int .i64 (n : Int), .int .i64 (d : Int)] ∧ Below w.heap.size w w'
end Go.Proofs.YtmemkcaikajnnaaGreatDoor
