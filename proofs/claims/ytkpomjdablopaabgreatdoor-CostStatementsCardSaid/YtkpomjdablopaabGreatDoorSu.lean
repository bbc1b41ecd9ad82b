/- Walk: the laws' sum of two models. -/
import Derived.Test.YtkpomjdablopaabGreatDoorOwn
import Derived.Test.YtkpomjdablopaabGreatDoorOf
import Derived.Test.YtkpomjdablopaabGreatDoorKn
import Derived.StillTailTactics
import Derived.Deep.AppendLies
import Derived.Deep.RegionHeld3
namespace Go.Proofs.YtkpomjdablopaabGreatDoor
open Go.RowKit Go.Sort
set_option linter.unusedVariables false

namespace C
/-- the sums of the entries -/
def add (c d : C) : C := ⟨c.assign + d.assign, c.branch + d.branch, c.loop + d.loop, c.call + d.call, c.output + d.output, c.release + d.release, c.load + d.load, c.index + d.index, c.arith + d.arith, c.multiply + d.multiply, c.divide + d.divide, c.compare + d.compare, c.logic + d.logic⟩
theorem add_at (c d : C) {i : Nat} (h : i < 13) : (add c d).list.getD i 0 = c.list.getD i 0 + d.list.getD i 0 := by
  match i, h with
  | 0, _ => rfl
  | 1, _ => rfl
  | 2, _ => rfl
  | 3, _ => rfl
  | 4, _ => rfl
  | 5, _ => rfl
  | 6, _ => rfl
  | 7, _ => rfl
  | 8, _ => rfl
  | 9, _ => rfl
  | 10, _ => rfl
  | 11, _ => rfl
  | 12, _ => rfl
theorem get_bd {c : C} (hc : c.ok = true) {i : Nat} (h : i < 13) : 0 ≤ c.list.getD i 0 ∧ c.list.getD i 0 ≤ 100 :=
  C.ok_get hc (by rw [List.getD_eq_getElem?_getD, List.getElem?_eq_getElem (by rw [C.len]; exact h)]; exact List.getElem_mem _)
theorem take_next (c : C) {i : Nat} (h : i < 13) : c.list.take (i + 1) = c.list.take i ++ [c.list.getD i 0] := by
  have h1 : i < c.list.length := by rw [C.len]; exact h
  rw [List.take_succ_eq_append_getElem h1, List.getD_eq_getElem?_getD, List.getElem?_eq_getElem h1]; rfl
end C
/-- a new list of thirteen numbers -/
def NewZ13 (zs : List Int) (w : World) (r : Ending) (w' : World) : Prop := ∃ (A : Option Addr) (c : Nat), r = .returned (.slice A 13 c) ∧ Zs w' w'.heap.size A zs ∧ Below w.heap.size w w'
/-- the boxes of sum: two models, the result -/
structure SuW (w wr : World) (c d : C) : Prop where
  bc : Blk wr w.heap.size c.box
  bd : Blk wr (w.heap.size + 1) d.box
  br : Blk wr (w.heap.size + 2) #[.int .i64 0, .int .i64 0, .int .i64 0, .int .i64 0, .int .i64 0, .int .i64 0, .int .i64 0, .int .i64 0, .int .i64 0, .int .i64 0, .int .i64 0, .int .i64 0, .int .i64 0]
  bel : Below w.heap.size w wr
theorem SuW.below {w wr w' : World} {c d : C} (h : SuW w wr c d) (hb : Below wr.heap.size wr w') : SuW w w' c d := ⟨h.bc.below hb h.bc.lt, h.bd.below hb h.bd.lt, h.br.below hb h.br.lt, bTrans h.bel hb⟩
theorem SuW.start (w : World) (c d : C) (T T' T'' : TypeId) : SuW w (((w.alloc (.cells c.box T)).alloc (.cells d.box T')).alloc (.cells #[.int .i64 0, .int .i64 0, .int .i64 0, .int .i64 0, .int .i64 0, .int .i64 0, .int .i64 0, .int .i64 0, .int .i64 0, .int .i64 0, .int .i64 0, .int .i64 0, .int .i64 0] T'')) c d :=
  ⟨((Blk.new_ _ _ _).alloc _).alloc _, (Blk.new' (by simp)).alloc _, Blk.new' (by simp), ((al1 w _).alloc (by simp) _).alloc (by simp; omega) _⟩
theorem SuW.drew {w wr : World} {c d : C} (h : SuW w wr c d) : SuW w wr.drew c d := h.below (show Below wr.heap.size wr wr.drew from (Below.refl _ _).drew)
theorem SuW.S {w w' : World} {c d : C} (h : SuW w w' c d) : w'.cell? ⟨w.heap.size, 0, none⟩ = some (.int .i64 c.assign) ∧ w'.cell? ⟨w.heap.size, 1, none⟩ = some (.int .i64 c.branch) ∧ w'.cell? ⟨w.heap.size, 2, none⟩ = some (.int .i64 c.loop) ∧ w'.cell? ⟨w.heap.size, 3, none⟩ = some (.int .i64 c.call) ∧ w'.cell? ⟨w.heap.size, 4, none⟩ = some (.int .i64 c.output) ∧ w'.cell? ⟨w.heap.size, 5, none⟩ = some (.int .i64 c.release) ∧ w'.cell? ⟨w.heap.size, 6, none⟩ = some (.int .i64 c.load) ∧ w'.cell? ⟨w.heap.size, 7, none⟩ = some (.int .i64 c.index) ∧ w'.cell? ⟨w.heap.size, 8, none⟩ = some (.int .i64 c.arith) ∧ w'.cell? ⟨w.heap.size, 9, none⟩ = some (.int .i64 c.multiply) ∧ w'.cell? ⟨w.heap.size, 10, none⟩ = some (.int .i64 c.divide) ∧ w'.cell? ⟨w.heap.size, 11, none⟩ = some (.int .i64 c.compare) ∧ w'.cell? ⟨w.heap.size, 12, none⟩ = some (.int .i64 c.logic) ∧ w'.cell? ⟨w.heap.size + 1, 0, none⟩ = some (.int .i64 d.assign) ∧ w'.cell? ⟨w.heap.size + 1, 1, none⟩ = some (.int .i64 d.branch) ∧ w'.cell? ⟨w.heap.size + 1, 2, none⟩ = some (.int .i64 d.loop) ∧ w'.cell? ⟨w.heap.size + 1, 3, none⟩ = some (.int .i64 d.call) ∧ w'.cell? ⟨w.heap.size + 1, 4, none⟩ = some (.int .i64 d.output) ∧ w'.cell? ⟨w.heap.size + 1, 5, none⟩ = some (.int .i64 d.release) ∧ w'.cell? ⟨w.heap.size + 1, 6, none⟩ = some (.int .i64 d.load) ∧ w'.cell? ⟨w.heap.size + 1, 7, none⟩ = some (.int .i64 d.index) ∧ w'.cell? ⟨w.heap.size + 1, 8, none⟩ = some (.int .i64 d.arith) ∧ w'.cell? ⟨w.heap.size + 1, 9, none⟩ = some (.int .i64 d.multiply) ∧ w'.cell? ⟨w.heap.size + 1, 10, none⟩ = some (.int .i64 d.divide) ∧ w'.cell? ⟨w.heap.size + 1, 11, none⟩ = some (.int .i64 d.compare) ∧ w'.cell? ⟨w.heap.size + 1, 12, none⟩ = some (.int .i64 d.logic) := by
  obtain ⟨h0, h1, h2, h3, h4, h5, h6, h7, h8, h9, h10, h11, h12⟩ := c13 h.bc
  obtain ⟨e0, e1, e2, e3, e4, e5, e6, e7, e8, e9, e10, e11, e12⟩ := c13 h.bd
  exact ⟨h0, h1, h2, h3, h4, h5, h6, h7, h8, h9, h10, h11, h12, e0, e1, e2, e3, e4, e5, e6, e7, e8, e9, e10, e11, e12⟩
/-- the row of sums so far -/
structure SuI (w wr : World) (c d : C) (B : Nat) (A1 A2 : Option Addr) (v : Value) (zs : List Int) : Prop where
  own : wr.ownsRow B 3 1 v zs.length (zvals zs)
  X : SuW w wr c d
  z1 : Zs wr B A1 c.list
  z2 : Zs wr B A2 d.list
  b1 : w.heap.size + 3 ≤ B
  b2 : B ≤ wr.heap.size
theorem SuW.low {w wr w' : World} {c d : C} {B : Nat} (h : SuW w wr c d) (hb : Below B wr w') (hB : w.heap.size + 3 ≤ B) : SuW w w' c d :=
  ⟨h.bc.below hb (by omega), h.bd.below hb (by omega), h.br.below hb (by omega), h.bel.trans (hb.mono (by omega))⟩
theorem SuI.grown {w wr w3 : World} {c d : C} {B : Nat} {A1 A2 : Option Addr} {v v' : Value} {zs : List Int} {x : Int} {o : Obj} (h : SuI w wr c d B A1 A2 v zs)
    (ho : w3.ownsRow B 3 1 v' (zs.length + 1) (zvals zs ++ [.int .i64 x])) (hg : (wr.alloc o).grownBy w3 v.ownBlock) : SuI w w3 c d B A1 A2 v' (zs ++ [x]) := by
  have hb : Below B wr w3 := ((Below.refl B wr).alloc h.b2 o).grown hg (by have := h.b2; simp; omega) (fun k e => (h.own.lt k e).1)
  exact ⟨by rw [zvals_snoc, List.length_append]; exact ho, h.X.low hb h.b1, h.z1.below hb, h.z2.below hb, h.b1, Nat.le_trans h.b2 hb.size⟩
theorem SuI.two {w wr w3 : World} {c d : C} {B : Nat} {A1 A2 : Option Addr} {v : Value} {zs : List Int} {o : Obj} {ab ao bb bo : Nat} {x y : Value} (h : SuI w wr c d B A1 A2 v zs) (hg : (wr.alloc o).grownBy w3 v.ownBlock)
    (h1 : wr.cell? ⟨ab, ao, none⟩ = some x) (h2 : wr.cell? ⟨bb, bo, none⟩ = some y) (ha : ab < B) (hb : bb < B) : w3.cell? ⟨ab, ao, none⟩ = some x ∧ w3.cell? ⟨bb, bo, none⟩ = some y := by
  have hb' : Below B wr w3 := ((Below.refl B wr).alloc h.b2 o).grown hg (by have := h.b2; simp; omega) (fun k e => (h.own.lt k e).1)
  exact ⟨(hb'.cell (p := ⟨ab, ao, none⟩) ha).trans h1, (hb'.cell (p := ⟨bb, bo, none⟩) hb).trans h2⟩
theorem SuI.below {w wr w' : World} {c d : C} {B : Nat} {A1 A2 : Option Addr} {v : Value} {zs : List Int} (h : SuI w wr c d B A1 A2 v zs) (hb : Below wr.heap.size wr w') : SuI w w' c d B A1 A2 v zs :=
  ⟨h.own.kept (row := none) ⟨hb.os, hb.tape, hb.output, hb.size, fun k hk _ => hb.block k hk⟩ (by cases hv : v.ownBlock <;> simp), h.X.below hb, h.z1.below (hb.mono h.b2), h.z2.below (hb.mono h.b2), h.b1, Nat.le_trans h.b2 hb.size⟩
theorem SuI.start {w wr : World} {c d : C} {A1 A2 : Option Addr} (X : SuW w wr c d) (z1 : Zs wr wr.heap.size A1 c.list) (z2 : Zs wr wr.heap.size A2 d.list) : SuI w (wr.alloc (.cells #[] 3)) c d wr.heap.size A1 A2 (.slice (some ⟨wr.heap.size, 0, none⟩) 0 0) [] :=
  ⟨⟨rfl, .inr ⟨wr.heap.size, 0, #[], rfl, Nat.le_refl _, heap_alloc_new wr _, Nat.le_refl _, by unfold maxLen; omega, rfl, rfl⟩⟩, X.below (al1 _ _), z1.below (al1 _ _), z2.below (al1 _ _), by have := X.br.lt; omega, by simp⟩
end Go.Proofs.YtkpomjdablopaabGreatDoor
