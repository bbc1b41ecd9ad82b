/- Walk: the law CostParts. -/
import Derived.Test.YtkpomjdablopaabGreatDoorLf
namespace Go.Proofs.YtkpomjdablopaabGreatDoor
open Go.RowKit Go.Sort
set_option linter.unusedVariables false

theorem ckC_mk {c : C} {e : E} (hc : c.ok = true) (h : E.Ok nmB e) : ckC c [e] = 0 := by rw [ckC1, hc]; exact E.chk_ok.2 h
theorem exN_mk {c : C} {e : E} (h : ckC c [e] = 0) : exN c e = e.sum c.opC := by unfold exN; rw [if_pos h]
/-- what the law says, plain -/
theorem parts_plain {c : C} {op : Int} {p q : Option Addr} {x y : E} (h : ckC c [E.two op p x y] = 0) (h5 : op ≠ 5) :
    ckC c [x] = 0 ∧ ckC c [y] = 0 ∧ ckC c [E.two op q (E.lit 0) (E.lit 1)] = 0 ∧ exN c (E.two op p x y) = exN c x + exN c y + exN c (E.two op q (E.lit 0) (E.lit 1))
      ∧ 0 ≤ exN c x ∧ exN c x ≤ 102400 ∧ 0 ≤ exN c y ∧ exN c y ≤ 102400 ∧ 0 ≤ exN c (E.two op q (E.lit 0) (E.lit 1)) ∧ exN c (E.two op q (E.lit 0) (E.lit 1)) ≤ 102400 := by
  obtain ⟨hc, ho⟩ := ckC_zero h
  have ox : E.Ok nmB x := ho.kid (by simp [E.ks])
  have oy : E.Ok nmB y := ho.kid (by simp [E.ks])
  have ow : E.Ok nmB (E.two op q (E.lit 0) (E.lit 1)) := E.Ok.own ho h5
  have kx := ckC_mk hc ox
  have ky := ckC_mk hc oy
  have kw := ckC_mk hc ow
  have bx := C.sum_bd hc x
  have by_ := C.sum_bd hc y
  have bw := C.sum_bd hc (E.two op q (E.lit 0) (E.lit 1))
  have nx := ox.nodes
  have ny := oy.nodes
  have nw := ow.nodes
  rw [exN_mk h, exN_mk kx, exN_mk ky, exN_mk kw]
  refine ⟨kx, ky, kw, ?_, by omega, by omega, by omega, by omega, by omega, by omega⟩
  have z : c.opC 0 = 0 := by unfold C.opC; simp
  simp only [E.sum_eq, E.op, E.ks, E.sumL, z]
  omega
/-- the cells of two expressions -/
abbrev pr (x y : E) : Array Value := #[.int .i64 x.op, .int .i64 x.n, .string x.nm, .slice x.ad x.ks.length x.cap, .int .i64 y.op, .int .i64 y.n, .string y.nm, .slice y.ad y.ks.length y.cap]
/-- the boxes of the law -/
structure PaW (w wr : World) (c : C) (x y : E) : Prop where
  bc : Blk wr w.heap.size c.box
  bl : Blk wr (w.heap.size + 1) (pr x y)
  bel : Below w.heap.size w wr
theorem PaW.start (w : World) (c : C) (x y : E) (T T' : TypeId) : PaW w ((w.alloc (.cells c.box T)).alloc (.cells (pr x y) T')) c x y :=
  ⟨(Blk.new_ _ _ _).alloc _, Blk.new' (by simp), (al1 w _).alloc (by simp) _⟩
theorem PaW.below {w wr w' : World} {c : C} {x y : E} (h : PaW w wr c x y) (hb : Below wr.heap.size wr w') : PaW w w' c x y := ⟨h.bc.below hb h.bc.lt, h.bl.below hb h.bl.lt, bTrans h.bel hb⟩
theorem PaW.S {w wr : World} {c : C} {x y : E} (h : PaW w wr c x y) : wr.cell? ⟨w.heap.size + 1, 0, none⟩ = some (.int .i64 x.op) ∧ wr.cell? ⟨w.heap.size + 1, 1, none⟩ = some (.int .i64 x.n) ∧ wr.cell? ⟨w.heap.size + 1, 2, none⟩ = some (.string x.nm) ∧ wr.cell? ⟨w.heap.size + 1, 3, none⟩ = some (.slice x.ad x.ks.length x.cap) ∧ wr.cell? ⟨w.heap.size + 1, 4, none⟩ = some (.int .i64 y.op) ∧ wr.cell? ⟨w.heap.size + 1, 5, none⟩ = some (.int .i64 y.n) ∧ wr.cell? ⟨w.heap.size + 1, 6, none⟩ = some (.string y.nm) ∧ wr.cell? ⟨w.heap.size + 1, 7, none⟩ = some (.slice y.ad y.ks.length y.cap) :=
  ⟨h.bl.c 0 rfl, h.bl.c 1 rfl, h.bl.c 2 rfl, h.bl.c 3 rfl, h.bl.c 4 rfl, h.bl.c 5 rfl, h.bl.c 6 rfl, h.bl.c 7 rfl⟩
theorem two_big {op : Int} {p : Option Addr} {x y : E} (hx : x.any E.big = false) (hy : y.any E.big = false) : (E.two op p x y).any E.big = false := by
  rw [E.any_eq]
  simp only [E.ks, E.anyL, hx, hy]
  rfl
theorem lit_big (n : Int) : (E.lit n).any E.big = false := by rw [E.any_eq]; rfl

end Go.Proofs.YtkpomjdablopaabGreatDoor
