/- Words for the law IntegerSums: the world of its arguments, and of two integers in boxes of its own. -/
import Derived.Test.YtckenemkfegopaaDoorLw
namespace Go.Proofs.YtckenemkfegopaaDoor
open Go.RowKit
set_option linter.unusedVariables false

theorem far2 {W : World} {g b j : Nat} {u v x : Value} (h : W.cell? ⟨b, j, none⟩ = some x) (hne : b ≠ g) : ((W.setCell ⟨g, 0, none⟩ u).setCell ⟨g, 1, none⟩ v).cell? ⟨b, j, none⟩ = some x := by
  have q : ∀ (W : World) (i : Nat) (y : Value), (W.setCell ⟨g, i, none⟩ y).cell? ⟨b, j, none⟩ = W.cell? ⟨b, j, none⟩ := fun W i y => World.cell?_of_block (w := W) (Below.heap_setCell W ⟨g, i, none⟩ y b hne)
  rw [q, q]; exact h
theorem cell_alloc {W : World} {b j : Nat} {x : Value} {o : Obj} (h : W.cell? ⟨b, j, none⟩ = some x) : (W.alloc o).cell? ⟨b, j, none⟩ = some x := (World.cell?_alloc_lt W o _ (World.block_lt_of_cell? W _ h)).trans h
theorem cell_drew {W : World} {b j : Nat} {x : Value} (h : W.cell? ⟨b, j, none⟩ = some x) : W.drew.cell? ⟨b, j, none⟩ = some x := h
/-- the arguments of a law over three integers -/
structure Q3 (w wr : World) (p1 : Bool) (a1 : Option Addr) (c1 : Nat) (l1 : List Nat) (x : Int) (p2 : Bool) (a2 : Option Addr) (c2 : Nat) (l2 : List Nat) (y : Int) (p3 : Bool) (a3 : Option Addr) (c3 : Nat) (l3 : List Nat) (z : Int) : Prop where
  i : A3 w wr p1 a1 l1.length c1 p2 a2 l2.length c2 p3 a3 l3.length c3
  X : Iv wr p1 a1 c1 l1 x 10
  Y : Iv wr p2 a2 c2 l2 y 10
  Z : Iv wr p3 a3 c3 l3 z 10
section
variable {w wr wx : World} {p1 p2 p3 : Bool} {a1 a2 a3 : Option Addr} {c1 c2 c3 : Nat} {l1 l2 l3 : List Nat} {x y z : Int}
theorem Q3.below (h : Q3 w wr p1 a1 c1 l1 x p2 a2 c2 l2 y p3 a3 c3 l3 z) (hb : Below wr.heap.size wr wx) : Q3 w wx p1 a1 c1 l1 x p2 a2 c2 l2 y p3 a3 c3 l3 z := ⟨h.i.below hb, h.X.below hb, h.Y.below hb, h.Z.below hb⟩
theorem Q3.drew (h : Q3 w wr p1 a1 c1 l1 x p2 a2 c2 l2 y p3 a3 c3 l3 z) : Q3 w wr.drew p1 a1 c1 l1 x p2 a2 c2 l2 y p3 a3 c3 l3 z := ⟨h.i.drew, h.X.drew, h.Y.drew, h.Z.drew⟩
theorem Q3.alloc (h : Q3 w wr p1 a1 c1 l1 x p2 a2 c2 l2 y p3 a3 c3 l3 z) (o : Obj) : Q3 w (wr.alloc o) p1 a1 c1 l1 x p2 a2 c2 l2 y p3 a3 c3 l3 z := ⟨h.i.alloc o, h.X.alloc o, h.Y.alloc o, h.Z.alloc o⟩
theorem Q3.size (h : Q3 w wr p1 a1 c1 l1 x p2 a2 c2 l2 y p3 a3 c3 l3 z) : w.heap.size + 2 < wr.heap.size := h.i.t3.lt
theorem Iv.put {W : World} {p : Bool} {A : Option Addr} {c n : Nat} {l : List Nat} {v : Int} (h : Iv W p A c l v n) {g : Nat} {q : Bool} {A' : Option Addr} {n' c' : Nat} (t : Two W g (.bool q) (.slice A' n' c')) (u u2 : Value) :
    Iv ((W.setCell ⟨g, 0, none⟩ u).setCell ⟨g, 1, none⟩ u2) p A c l v n := ⟨(h.sl.put t u u2).more (by simp [World.setCell]), h.val, h.len⟩
theorem Cn.put {W : World} {p : Bool} {A : Option Addr} {c n : Nat} {l : List Nat} {v : Int} (h : Cn W p A c l v n) {g : Nat} {q : Bool} {A' : Option Addr} {n' c' : Nat} (t : Two W g (.bool q) (.slice A' n' c')) (u u2 : Value) :
    Cn ((W.setCell ⟨g, 0, none⟩ u).setCell ⟨g, 1, none⟩ u2) p A c l v n := ⟨h.iv.put t u u2, h.can⟩
theorem Q3.put (h : Q3 w wr p1 a1 c1 l1 x p2 a2 c2 l2 y p3 a3 c3 l3 z) {g : Nat} {q : Bool} {A' : Option Addr} {n' c' : Nat} (t : Two wr g (.bool q) (.slice A' n' c')) (hg : w.heap.size + 2 < g) (u v : Value) :
    Q3 w ((wr.setCell ⟨g, 0, none⟩ u).setCell ⟨g, 1, none⟩ v) p1 a1 c1 l1 x p2 a2 c2 l2 y p3 a3 c3 l3 z :=
  ⟨⟨(h.i.t1.far (by simp; omega) _).far (by simp; omega) _, (h.i.t2.far (by simp; omega) _).far (by simp; omega) _, (h.i.t3.far (by simp; omega) _).far (by simp; omega) _, (h.i.bel.setCell (by simp; omega) _).setCell (by simp; omega) _⟩, h.X.put t u v, h.Y.put t u v, h.Z.put t u v⟩
end
/-- and two integers in boxes of the law's own -/
structure Q5 (w wr : World) (g h : Nat) (p1 : Bool) (a1 : Option Addr) (c1 : Nat) (l1 : List Nat) (x : Int) (p2 : Bool) (a2 : Option Addr) (c2 : Nat) (l2 : List Nat) (y : Int) (p3 : Bool) (a3 : Option Addr) (c3 : Nat) (l3 : List Nat) (z : Int)
    (p4 : Bool) (a4 : Option Addr) (c4 : Nat) (l4 : List Nat) (p5 : Bool) (a5 : Option Addr) (c5 : Nat) (l5 : List Nat) : Prop where
  q : Q3 w wr p1 a1 c1 l1 x p2 a2 c2 l2 y p3 a3 c3 l3 z
  t4 : Two wr g (.bool p4) (.slice a4 l4.length c4)
  t5 : Two wr h (.bool p5) (.slice a5 l5.length c5)
  S : Cn wr p4 a4 c4 l4 (x + y) 11
  D : Cn wr p5 a5 c5 l5 (x - y) 11
section
variable {w wr wx : World} {g h : Nat} {p1 p2 p3 p4 p5 : Bool} {a1 a2 a3 a4 a5 : Option Addr} {c1 c2 c3 c4 c5 : Nat} {l1 l2 l3 l4 l5 : List Nat} {x y z : Int}
theorem Q5.below (k : Q5 w wr g h p1 a1 c1 l1 x p2 a2 c2 l2 y p3 a3 c3 l3 z p4 a4 c4 l4 p5 a5 c5 l5) (hb : Below wr.heap.size wr wx) : Q5 w wx g h p1 a1 c1 l1 x p2 a2 c2 l2 y p3 a3 c3 l3 z p4 a4 c4 l4 p5 a5 c5 l5 :=
  ⟨k.q.below hb, k.t4.below hb k.t4.lt, k.t5.below hb k.t5.lt, k.S.below hb, k.D.below hb⟩
theorem Q5.drew (k : Q5 w wr g h p1 a1 c1 l1 x p2 a2 c2 l2 y p3 a3 c3 l3 z p4 a4 c4 l4 p5 a5 c5 l5) : Q5 w wr.drew g h p1 a1 c1 l1 x p2 a2 c2 l2 y p3 a3 c3 l3 z p4 a4 c4 l4 p5 a5 c5 l5 :=
  ⟨k.q.drew, k.t4.drew, k.t5.drew, k.S.drew, k.D.drew⟩
/-- behind both stores -/
theorem Q5.of {wb : World} (k : Q3 w wb p1 a1 c1 l1 x p2 a2 c2 l2 y p3 a3 c3 l3 z) (T4 : Two wb g (.bool false) (.slice none 0 0)) (T5 : Two wb h (.bool false) (.slice none 0 0)) (hg : w.heap.size + 2 < g) (hh : w.heap.size + 2 < h) (hgh : g ≠ h)
    (S : Cn wb p4 a4 c4 l4 (x + y) 11) (D : Cn wb p5 a5 c5 l5 (x - y) 11) :
    Q5 w ((((wb.setCell ⟨g, 0, none⟩ (.bool p4)).setCell ⟨g, 1, none⟩ (.slice a4 l4.length c4)).setCell ⟨h, 0, none⟩ (.bool p5)).setCell ⟨h, 1, none⟩ (.slice a5 l5.length c5)) g h p1 a1 c1 l1 x p2 a2 c2 l2 y p3 a3 c3 l3 z p4 a4 c4 l4 p5 a5 c5 l5 := by
  have T5' : Two ((wb.setCell ⟨g, 0, none⟩ (.bool p4)).setCell ⟨g, 1, none⟩ (.slice a4 l4.length c4)) h (.bool false) (.slice none 0 0) := (T5.far (fun e => hgh e.symm) _).far (fun e => hgh e.symm) _
  exact ⟨(k.put T4 hg _ _).put T5' hh _ _, ((T4.put _ _).far hgh _).far hgh _, T5'.put _ _, (S.put T4 _ _).put T5' _ _, (D.put T4 _ _).put T5' _ _⟩
end
/-! a world is peeled: stores into a box, boxes that are made -/
theorem pkQ_set {w W : World} {p1 p2 p3 : Bool} {a1 a2 a3 : Option Addr} {c1 c2 c3 : Nat} {l1 l2 l3 : List Nat} {x y z : Int} {g : Nat} {u v : Value} (h : Q3 w W p1 a1 c1 l1 x p2 a2 c2 l2 y p3 a3 c3 l3 z) (t : Two W g (.bool false) (.slice none 0 0)) (hg : w.heap.size + 2 < g) : Q3 w ((W.setCell ⟨g, 0, none⟩ u).setCell ⟨g, 1, none⟩ v) p1 a1 c1 l1 x p2 a2 c2 l2 y p3 a3 c3 l3 z := h.put t hg u v
theorem pkT_put {W : World} {g : Nat} {u v : Value} (t : Two W g (.bool false) (.slice none 0 0)) : Two ((W.setCell ⟨g, 0, none⟩ u).setCell ⟨g, 1, none⟩ v) g u v := t.put u v
theorem pkT_far {W : World} {g h : Nat} {x y u v : Value} (t : Two W g x y) (hgh : g ≠ h) : Two ((W.setCell ⟨h, 0, none⟩ u).setCell ⟨h, 1, none⟩ v) g x y := (t.far hgh _).far hgh _
theorem pkT_new {W : World} {g : Nat} {x y : Value} {T : TypeId} (h : W.heap.size = g) : Two (W.alloc (.cells #[x, y] T)) g x y := by subst h; exact Two.new_ W x y T
theorem pkC_set {W : World} {p : Bool} {A : Option Addr} {c n : Nat} {l : List Nat} {z : Int} {g : Nat} {u v : Value} (h : Cn W p A c l z n) (t : Two W g (.bool false) (.slice none 0 0)) : Cn ((W.setCell ⟨g, 0, none⟩ u).setCell ⟨g, 1, none⟩ v) p A c l z n := h.put t u v
/-- a box that was made behind another -/
theorem two_new2 (W : World) (x y : Value) (T : TypeId) (o : Obj) : Two ((W.alloc o).alloc (.cells #[x, y] T)) (W.heap.size + 1) x y := by
  have := Two.new_ (W.alloc o) x y T
  rwa [World.size_alloc] at this
end Go.Proofs.YtckenemkfegopaaDoor
