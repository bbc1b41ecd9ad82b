/- Walk: the laws' known. -/
import Derived.Test.YtmemkcaikajnnaaGreatDoorCg
import Derived.Deep.RegionLaw
import Derived.Deep.AppendLies
import Derived.Deep.RegionWith
namespace Go.Proofs.YtmemkcaikajnnaaGreatDoor
open Go.RowKit Go.Sort
set_option linter.unusedVariables false

namespace E
/-- a variable, a literal, an operator of two kids -/
abbrev nam (s : ByteArray) : E := .mk 3 0 s none 0 []
abbrev lit (n : Int) : E := .mk 0 n ⟨#[]⟩ none 0 []
abbrev two (o : Int) (p : Option Addr) (a b : E) : E := .mk o 0 ⟨#[]⟩ p 2 [a, b]
abbrev kPlace (p1 : Option Addr) : E := two 5 p1 (nam ⟨#[98]⟩) (nam ⟨#[105]⟩)
abbrev kAdd (p1 p2 p3 : Option Addr) : E := two 8 p3 (nam ⟨#[97]⟩) (two 10 p2 (kPlace p1) (lit 2))
theorem leaf_in (w : World) (B : Nat) (o n : Int) (s : ByteArray) (ho : inI o) (hn : inI n) (hs : s.size ≤ 9223372036854775807) : In w B (.mk o n s none 0 []) :=
  (in_eq _).2 ⟨⟨ho, hn, hs, by simp [ks], Row.nil _ _ _⟩, by simp [InL, ks]⟩
/-- an operator over two kids that lie in a new block -/
theorem two_in (w : World) (o : Int) (a b : E) (T : TypeId) (ho : inI o) (ha : In w w.heap.size a) (hb : In w w.heap.size b) (vs : Array Value) (hv : vs.toList = flat [a, b]) :
    In (w.alloc (.cells vs T)) (w.alloc (.cells vs T)).heap.size (two o (some ⟨w.heap.size, 0, none⟩) a b) := by
  have hL : E.L (w.alloc (.cells vs T)) (w.alloc (.cells vs T)).heap.size (some ⟨w.heap.size, 0, none⟩) [a, b] :=
    L_new w [a, b] T vs hv (by simp) (fun e he => by simp at he; rcases he with rfl | rfl <;> assumption)
  exact (in_eq _).2 ⟨⟨ho, (⟨by decide, by decide⟩ : inI 0), by show 0 ≤ 9223372036854775807; decide, by show 2 ≤ 9223372036854775807; decide, hL.row⟩, inL_iff.2 hL.all⟩
end E
/-- the default model; the same with a load of 2 -/
def cDef : C := ⟨1, 1, 1, 2, 1, 1, 0, 1, 1, 3, 8, 1, 1⟩
def cTwo : C := ⟨1, 1, 1, 2, 1, 1, 2, 1, 1, 3, 8, 1, 1⟩
theorem kn1 (p1 p2 p3 : Option Addr) : exN cDef (E.kAdd p1 p2 p3) = 5 ∧ ckC cDef [E.kAdd p1 p2 p3] = 0 := ⟨by kernel_rfl, by kernel_rfl⟩
theorem kn2 (p1 p2 p3 : Option Addr) : exN cTwo (E.kAdd p1 p2 p3) = 11 ∧ ckC cTwo [E.kAdd p1 p2 p3] = 0 := ⟨by kernel_rfl, by kernel_rfl⟩
theorem kn3 (p1 : Option Addr) : plV cTwo (E.kPlace p1) = 3 ∧ plK cTwo (E.kPlace p1) = 0 := ⟨by kernel_rfl, by kernel_rfl⟩
theorem kbig (p1 p2 p3 : Option Addr) : (E.kAdd p1 p2 p3).any E.big = false ∧ (E.kPlace p1).any E.big = false := ⟨by kernel_rfl, by kernel_rfl⟩
abbrev nmV (s : ByteArray) : Value := .agg #[.int .i64 3, .int .i64 0, .string s, .slice none 0 0]
set_option maxRecDepth 100000 in
theorem name_any (s : ByteArray) (w : World) : Calls Tryz.prog 16 #[.string s] w fun r w' => r = .returned (nmV s) ∧ Below w.heap.size w w' := by
  go_enter Tryz.func16, Tryz.ntmps16
  go_wp2_with fail
  exact bodyPost_ret (v := nmV s) (by simp [results, Tryz.results16, go_sem]) rfl ⟨rfl, al1 _ _⟩
/-- an operator over two kids that lie in the block b -/
theorem two_of (w : World) (o : Int) (a b : E) (bk : Nat) (vs : Array Value) (ho : inI o) (ha : E.In w w.heap.size a) (hb : E.In w w.heap.size b) (h : Blk w bk vs) (hv : vs.toList = E.flat [a, b]) :
    E.In w w.heap.size (E.two o (some ⟨bk, 0, none⟩) a b) := by
  have hL : E.L w w.heap.size (some ⟨bk, 0, none⟩) [a, b] :=
    ⟨by simp, ⟨fun _ => ⟨bk, 0, rfl, h.lt, fun k u hu => by
      rw [Nat.zero_add]
      refine h.c k ?_
      rw [← hv, Array.getElem?_toList] at hu
      exact hu⟩⟩, fun e he => by simp at he; rcases he with rfl | rfl <;> assumption⟩
  exact (E.in_eq _).2 ⟨⟨ho, (⟨by decide, by decide⟩ : inI 0), by show 0 ≤ 9223372036854775807; decide, by show 2 ≤ 9223372036854775807; decide, hL.row⟩, E.inL_iff.2 hL.all⟩
abbrev k1 : Array Value := #[.int .i64 3, .int .i64 0, .string ⟨#[98]⟩, .slice none 0 0, .int .i64 3, .int .i64 0, .string ⟨#[105]⟩, .slice none 0 0]
abbrev k2 (b1 : Nat) : Array Value := #[.int .i64 5, .int .i64 0, .string ⟨#[]⟩, .slice (some ⟨b1, 0, none⟩) 2 2, .int .i64 0, .int .i64 2, .string ⟨#[]⟩, .slice none 0 0]
abbrev k3 (b2 : Nat) : Array Value := #[.int .i64 3, .int .i64 0, .string ⟨#[97]⟩, .slice none 0 0, .int .i64 10, .int .i64 0, .string ⟨#[]⟩, .slice (some ⟨b2, 0, none⟩) 2 2]
abbrev kA (b3 : Nat) : Array Value := #[.int .i64 8, .int .i64 0, .string ⟨#[]⟩, .slice (some ⟨b3, 0, none⟩) 2 2]
abbrev kP (b1 : Nat) : Array Value := #[.int .i64 5, .int .i64 0, .string ⟨#[]⟩, .slice (some ⟨b1, 0, none⟩) 2 2]
abbrev k0 : Array Value := #[.int .i64 0, .int .i64 0, .string ⟨#[]⟩, .slice none 0 0]
/-- the world of known behind the place: the model's box, the place's box, the place's kids -/
structure KnB (w wr : World) (cb pb b1 : Nat) (c : C) : Prop where
  bc : Blk wr cb c.box
  bp : Blk wr pb (kP b1)
  l1 : Blk wr b1 k1
  bel : Below w.heap.size w wr
theorem KnB.below {w wr w' : World} {cb pb b1 : Nat} {c : C} (h : KnB w wr cb pb b1 c) (hb : Below wr.heap.size wr w') : KnB w w' cb pb b1 c :=
  ⟨h.bc.below hb h.bc.lt, h.bp.below hb h.bp.lt, h.l1.below hb h.l1.lt, bTrans h.bel hb⟩
theorem KnB.S {w wr : World} {cb pb b1 : Nat} {c : C} (h : KnB w wr cb pb b1 c) : wr.cell? ⟨pb, 0, none⟩ = some (.int .i64 5) ∧ wr.cell? ⟨pb, 1, none⟩ = some (.int .i64 0) ∧ wr.cell? ⟨pb, 2, none⟩ = some (.string ⟨#[]⟩) ∧ wr.cell? ⟨pb, 3, none⟩ = some (.slice (some ⟨b1, 0, none⟩) 2 2) :=
  ⟨h.bp.c 0 rfl, h.bp.c 1 rfl, h.bp.c 2 rfl, h.bp.c 3 rfl⟩
theorem KnB.drew {w wr : World} {cb pb b1 : Nat} {c : C} (h : KnB w wr cb pb b1 c) : KnB w wr.drew cb pb b1 c := h.below (show Below wr.heap.size wr wr.drew from (Below.refl _ _).drew)
/-- the world of known behind the expression -/
structure KnF (w wr : World) (cb pb b1 ab b2 b3 : Nat) (c : C) : Prop where
  ba : Blk wr ab (kA b3)
  l3 : Blk wr b3 (k3 b2)
  l2 : Blk wr b2 (k2 b1)
  B : KnB w wr cb pb b1 c
  ne : cb ≠ pb ∧ cb ≠ b1 ∧ cb ≠ ab ∧ cb ≠ b2 ∧ cb ≠ b3
theorem KnF.below {w wr w' : World} {cb pb b1 ab b2 b3 : Nat} {c : C} (h : KnF w wr cb pb b1 ab b2 b3 c) (hb : Below wr.heap.size wr w') : KnF w w' cb pb b1 ab b2 b3 c :=
  ⟨h.ba.below hb h.ba.lt, h.l3.below hb h.l3.lt, h.l2.below hb h.l2.lt, h.B.below hb, h.ne⟩
theorem KnF.drew {w wr : World} {cb pb b1 ab b2 b3 : Nat} {c : C} (h : KnF w wr cb pb b1 ab b2 b3 c) : KnF w wr.drew cb pb b1 ab b2 b3 c := h.below (show Below wr.heap.size wr wr.drew from (Below.refl _ _).drew)
theorem KnB.inP {w wr : World} {cb pb b1 : Nat} {c : C} (h : KnB w wr cb pb b1 c) : E.In wr wr.heap.size (E.kPlace (some ⟨b1, 0, none⟩)) :=
  two_of wr 5 _ _ b1 k1 ⟨by decide, by decide⟩ (E.leaf_in _ _ 3 0 ⟨#[98]⟩ ⟨by decide, by decide⟩ ⟨by decide, by decide⟩ (by decide)) (E.leaf_in _ _ 3 0 ⟨#[105]⟩ ⟨by decide, by decide⟩ ⟨by decide, by decide⟩ (by decide)) h.l1 rfl
theorem KnF.inA {w wr : World} {cb pb b1 ab b2 b3 : Nat} {c : C} (h : KnF w wr cb pb b1 ab b2 b3 c) : E.In wr wr.heap.size (E.kAdd (some ⟨b1, 0, none⟩) (some ⟨b2, 0, none⟩) (some ⟨b3, 0, none⟩)) :=
  two_of wr 8 _ _ b3 (k3 b2) ⟨by decide, by decide⟩ (E.leaf_in _ _ 3 0 ⟨#[97]⟩ ⟨by decide, by decide⟩ ⟨by decide, by decide⟩ (by decide))
    (two_of wr 10 _ _ b2 (k2 b1) ⟨by decide, by decide⟩ h.B.inP (E.leaf_in _ _ 0 2 ⟨#[]⟩ ⟨by decide, by decide⟩ ⟨by decide, by decide⟩ (by decide)) h.l2 rfl) h.l3 rfl
/-- what stands behind the expression -/
def KnQ (w : World) (cb pb b1 : Nat) (s3 : Value) (wx : World) : Prop := ∃ ab b3 b2 : Nat, s3 = .pointer (some ⟨ab, 0, none⟩) ∧ KnF w wx cb pb b1 ab b2 b3 cDef
theorem Blk.new' {w : World} {b : Nat} {vs : Array Value} {T : TypeId} (h : b = w.heap.size) : Blk (w.alloc (.cells vs T)) b vs := by subst h; exact Blk.new_ _ _ _
theorem Blk.newD {w : World} {b : Nat} {vs : Array Value} {T : TypeId} (h : b = w.heap.size) : Blk ((w.alloc (.cells vs T)).drew) b vs := (Blk.new' h).drew
theorem four_put {w : World} {b : Nat} {x0 x1 x2 x3 : Value} (h : Blk w b #[x0, x1, x2, x3]) (u0 u1 u2 u3 : Value) : Blk ((((w.setCell ⟨b, 0, none⟩ u0).setCell ⟨b, 1, none⟩ u1).setCell ⟨b, 2, none⟩ u2).setCell ⟨b, 3, none⟩ u3) b #[u0, u1, u2, u3] := (((h.put 0 u0).put 1 u1).put 2 u2).put 3 u3
theorem z4 {w : World} {b : Nat} (h : Blk w b k0) : (w.cell? ⟨b, 0, none⟩ = some (.int .i64 0) ∧ w.cell? ⟨b, 1, none⟩ = some (.int .i64 0) ∧ w.cell? ⟨b, 2, none⟩ = some (.string ⟨#[]⟩) ∧ w.cell? ⟨b, 3, none⟩ = some (.slice none 0 0)) ∧ (w.frozen? ⟨b, 0, none⟩ = false ∧ w.frozen? ⟨b, 1, none⟩ = false ∧ w.frozen? ⟨b, 2, none⟩ = false ∧ w.frozen? ⟨b, 3, none⟩ = false) :=
  ⟨⟨h.c 0 rfl, h.c 1 rfl, h.c 2 rfl, h.c 3 rfl⟩, h.fr 0, h.fr 1, h.fr 2, h.fr 3⟩
section
variable {w w5 : World} {cb pb b1 : Nat}
theorem kq_a (Y : KnB w w5 cb pb b1 cDef) (h1 : cb < b1) (h2 : cb < pb) (T1 T2 T3 : TypeId) :
    KnQ w cb pb b1 (.pointer (some ⟨w5.heap.size + 1 + 1, 0, none⟩)) (((w5.alloc (.cells (k2 b1) T1)).alloc (.cells (k3 w5.heap.size) T2)).alloc (.cells (kA (w5.heap.size + 1)) T3)) := by
  have hc := Y.bc.lt
  have hz := Y.bel.size
  exact ⟨w5.heap.size + 1 + 1, w5.heap.size + 1, w5.heap.size, rfl, Blk.new' (by simp), (Blk.new' (by simp)).alloc _, ((Blk.new' rfl).alloc _).alloc _,
    ⟨((Y.bc.alloc _).alloc _).alloc _, ((Y.bp.alloc _).alloc _).alloc _, ((Y.l1.alloc _).alloc _).alloc _, ((Y.bel.alloc hz _).alloc (by simp; omega) _).alloc (by simp; omega) _⟩, by omega, by omega, by omega, by omega, by omega⟩
theorem kq_b (Y : KnB w w5 cb pb b1 cDef) (h1 : cb < b1) (h2 : cb < pb) (T1 T2 T3 : TypeId) :
    KnQ w cb pb b1 (.pointer (some ⟨w5.heap.size + 1, 0, none⟩)) (((w5.alloc (.cells (k2 b1) T1)).alloc (.cells (kA (w5.heap.size + 1 + 1)) T2)).alloc (.cells (k3 w5.heap.size) T3)) := by
  have hc := Y.bc.lt
  have hz := Y.bel.size
  exact ⟨w5.heap.size + 1, w5.heap.size + 1 + 1, w5.heap.size, rfl, (Blk.new' (by simp)).alloc _, Blk.new' (by simp), ((Blk.new' rfl).alloc _).alloc _,
    ⟨((Y.bc.alloc _).alloc _).alloc _, ((Y.bp.alloc _).alloc _).alloc _, ((Y.l1.alloc _).alloc _).alloc _, ((Y.bel.alloc hz _).alloc (by simp; omega) _).alloc (by simp; omega) _⟩, by omega, by omega, by omega, by omega, by omega⟩
theorem kq_c (Y : KnB w w5 cb pb b1 cDef) (h1 : cb < b1) (h2 : cb < pb) (T1 T2 T3 : TypeId) :
    KnQ w cb pb b1 (.pointer (some ⟨w5.heap.size, 0, none⟩)) (((w5.alloc (.cells (kA (w5.heap.size + 1 + 1)) T1)).alloc (.cells (k2 b1) T2)).alloc (.cells (k3 (w5.heap.size + 1)) T3)) := by
  have hc := Y.bc.lt
  have hz := Y.bel.size
  exact ⟨w5.heap.size, w5.heap.size + 1 + 1, w5.heap.size + 1, rfl, ((Blk.new' rfl).alloc _).alloc _, Blk.new' (by simp), (Blk.new' (by simp)).alloc _,
    ⟨((Y.bc.alloc _).alloc _).alloc _, ((Y.bp.alloc _).alloc _).alloc _, ((Y.l1.alloc _).alloc _).alloc _, ((Y.bel.alloc hz _).alloc (by simp; omega) _).alloc (by simp; omega) _⟩, by omega, by omega, by omega, by omega, by omega⟩
theorem kq_d {b2 : Nat} (Y : KnB w w5 cb pb b1 cDef) (YB : Blk w5 b2 (k2 b1)) (h1 : cb < b1) (h2 : cb < pb) (h3 : pb < b2) (T1 T2 : TypeId) :
    KnQ w cb pb b1 (.pointer (some ⟨w5.heap.size + 1, 0, none⟩)) ((w5.alloc (.cells (k3 b2) T1)).alloc (.cells (kA w5.heap.size) T2)) := by
  have hc := Y.bc.lt
  have hz := Y.bel.size
  exact ⟨w5.heap.size + 1, w5.heap.size, b2, rfl, Blk.new' (by simp), (Blk.new' rfl).alloc _, (YB.alloc _).alloc _,
    ⟨(Y.bc.alloc _).alloc _, (Y.bp.alloc _).alloc _, (Y.l1.alloc _).alloc _, (Y.bel.alloc hz _).alloc (by simp; omega) _⟩, by omega, by omega, by omega, by omega, by omega⟩
theorem kq_e {b2 : Nat} (Y : KnB w w5 cb pb b1 cDef) (YB : Blk w5 b2 (k2 b1)) (h1 : cb < b1) (h2 : cb < pb) (h3 : pb < b2) (T1 T2 : TypeId) :
    KnQ w cb pb b1 (.pointer (some ⟨w5.heap.size, 0, none⟩)) ((w5.alloc (.cells (kA (w5.heap.size + 1)) T1)).alloc (.cells (k3 b2) T2)) := by
  have hc := Y.bc.lt
  have hz := Y.bel.size
  exact ⟨w5.heap.size, w5.heap.size + 1, b2, rfl, (Blk.new' rfl).alloc _, Blk.new' (by simp), (YB.alloc _).alloc _,
    ⟨(Y.bc.alloc _).alloc _, (Y.bp.alloc _).alloc _, (Y.l1.alloc _).alloc _, (Y.bel.alloc hz _).alloc (by simp; omega) _⟩, by omega, by omega, by omega, by omega, by omega⟩
/-- four stores keep another block -/
theorem Blk.far4 {W : World} {b a : Nat} {vs : Array Value} (h : Blk W b vs) (hne : b ≠ a) (u0 u1 u2 u3 : Value) : Blk ((((W.setCell ⟨a, 0, none⟩ u0).setCell ⟨a, 1, none⟩ u1).setCell ⟨a, 2, none⟩ u2).setCell ⟨a, 3, none⟩ u3) b vs :=
  (((h.far hne u0).far hne u1).far hne u2).far hne u3
theorem below4 {W : World} {a : Nat} {B : Nat} {w : World} (h : Below B w W) (ha : B ≤ a) (u0 u1 u2 u3 : Value) : Below B w ((((W.setCell ⟨a, 0, none⟩ u0).setCell ⟨a, 1, none⟩ u1).setCell ⟨a, 2, none⟩ u2).setCell ⟨a, 3, none⟩ u3) :=
  (((h.setCell (p := ⟨a, 0, none⟩) ha u0).setCell (p := ⟨a, 1, none⟩) ha u1).setCell (p := ⟨a, 2, none⟩) ha u2).setCell (p := ⟨a, 3, none⟩) ha u3
theorem kq_f {ab : Nat} (Y : KnB w w5 cb pb b1 cDef) (YA : Blk w5 ab k0) (h1 : cb < b1) (h2 : cb < pb) (h3 : pb < ab) (h4 : b1 < ab) (T1 T2 : TypeId) (hw : w.heap.size ≤ cb) :
    KnQ w cb pb b1 (.pointer (some ⟨ab, 0, none⟩)) ((((((w5.setCell ⟨ab, 0, none⟩ (.int .i64 8)).setCell ⟨ab, 1, none⟩ (.int .i64 0)).setCell ⟨ab, 2, none⟩ (.string ⟨#[]⟩)).setCell ⟨ab, 3, none⟩ (.slice (some ⟨w5.heap.size + 1, 0, none⟩) 2 2)).alloc (.cells (k2 b1) T1)).alloc (.cells (k3 w5.heap.size) T2)) := by
  have hc := Y.bc.lt
  have hz := Y.bel.size
  have ha := YA.lt
  exact ⟨ab, w5.heap.size + 1, w5.heap.size, rfl, ((four_put YA _ _ _ _).alloc _).alloc _, Blk.new' (by simp [World.setCell]), (Blk.new' (by simp [World.setCell])).alloc _,
    ⟨((Y.bc.far4 (by omega) _ _ _ _).alloc _).alloc _, ((Y.bp.far4 (by omega) _ _ _ _).alloc _).alloc _, ((Y.l1.far4 (by omega) _ _ _ _).alloc _).alloc _, ((below4 Y.bel (by omega) _ _ _ _).alloc (by simp [World.setCell]; omega) _).alloc (by simp [World.setCell]; omega) _⟩, by omega, by omega, by omega, by omega, by omega⟩
theorem kq_g {ab b2 : Nat} (Y : KnB w w5 cb pb b1 cDef) (YA : Blk w5 ab k0) (YB : Blk w5 b2 (k2 b1)) (h1 : cb < b1) (h2 : cb < pb) (h3 : pb < ab) (h5 : pb < b2) (h4 : b1 < ab) (T1 : TypeId) (hw : w.heap.size ≤ cb) :
    KnQ w cb pb b1 (.pointer (some ⟨ab, 0, none⟩)) (((((w5.setCell ⟨ab, 0, none⟩ (.int .i64 8)).setCell ⟨ab, 1, none⟩ (.int .i64 0)).setCell ⟨ab, 2, none⟩ (.string ⟨#[]⟩)).setCell ⟨ab, 3, none⟩ (.slice (some ⟨w5.heap.size, 0, none⟩) 2 2)).alloc (.cells (k3 b2) T1)) := by
  have hc := Y.bc.lt
  have hz := Y.bel.size
  have ha := YA.lt
  have hne : b2 ≠ ab := by
    rintro rfl
    have e1 : w5.cell? ⟨b2, 0, none⟩ = some (.int .i64 0) := YA.c 0 rfl
    have e2 : w5.cell? ⟨b2, 0, none⟩ = some (.int .i64 5) := YB.c 0 rfl
    rw [e1] at e2
    simp at e2
  exact ⟨ab, w5.heap.size, b2, rfl, (four_put YA _ _ _ _).alloc _, Blk.new' (by simp [World.setCell]), (YB.far4 hne _ _ _ _).alloc _,
    ⟨(Y.bc.far4 (by omega) _ _ _ _).alloc _, (Y.bp.far4 (by omega) _ _ _ _).alloc _, (Y.l1.far4 (by omega) _ _ _ _).alloc _, (below4 Y.bel (by omega) _ _ _ _).alloc (by simp [World.setCell]; omega) _⟩, by omega, by omega, by omega, by omega, by omega⟩
end
set_option maxRecDepth 100000 in
set_option maxHeartbeats 8000000 in
theorem known_ok (w : World) (hT : Tb w.heap.size w) : Calls Tryz.prog 5 #[] w fun r w' => r = .returned (.bool true) ∧ Below w.heap.size w w' := by
  go_enter Tryz.func5, Tryz.ntmps5
  go_wp2_with fail
  refine (default_any _).mono ?_
  rintro r w1 ⟨rfl, b1⟩
  have x0 : Blk (w1.alloc (.cells #[.int .i64 1, .int .i64 1, .int .i64 1, .int .i64 2, .int .i64 1, .int .i64 1, .int .i64 0, .int .i64 1, .int .i64 1, .int .i64 3, .int .i64 8, .int .i64 1, .int .i64 1] 23)) w1.heap.size cDef.box := Blk.new_ _ _ _
  have y0 := bTrans b1 (al1 w1 (.cells #[.int .i64 1, .int .i64 1, .int .i64 1, .int .i64 2, .int .i64 1, .int .i64 1, .int .i64 0, .int .i64 1, .int .i64 1, .int .i64 3, .int .i64 8, .int .i64 1, .int .i64 1] 23))
  have hy1 := b1.size
  obtain ⟨cb, hcb⟩ : ∃ cb, Hid (w1.heap.size = cb) := ⟨_, Lib.hid rfl⟩
  rw [hcb.out] at x0
  go_wp2_with fail
  refine (name_any _ _).mono ?_
  rintro r w2 ⟨rfl, b2⟩
  have x2 := x0.below b2 x0.lt
  have y2 := bTrans y0 b2
  clear x0 y0 b2 b1
  go_wp2_with fail
  refine (name_any _ _).mono ?_
  rintro r w3 ⟨rfl, b3⟩
  have x3 := x2.below b3 x2.lt
  have y3 := bTrans y2 b3
  clear x2 y2 b3
  rw [hcb.out]
  have hcb3 := x3.lt
  have X : KnB w ((w3.alloc (.cells k1 44)).alloc (.cells (kP w3.heap.size) 44)) cb (w3.heap.size + 1) w3.heap.size cDef :=
    ⟨(x3.alloc _).alloc _, Blk.new' (by simp), (Blk.new_ _ _ _).alloc _, (y3.alloc y3.size _).alloc (by have := y3.size; simp; omega) _⟩
  have hz4 : w3.heap.size + 2 = ((w3.alloc (.cells k1 44)).alloc (.cells (kP w3.heap.size) 44)).heap.size := by simp
  clear x3 y3
  go_upto_region 3 with (fail)
  revert X hz4
  generalize (w3.alloc (.cells #[.int .i64 3, .int .i64 0, .string ⟨#[98]⟩, .slice none 0 0, .int .i64 3, .int .i64 0, .string ⟨#[105]⟩, .slice none 0 0] 44)).alloc (.cells #[.int .i64 5, .int .i64 0, .string ⟨#[]⟩, .slice (some ⟨w3.heap.size, 0, none⟩) 2 2] 44) = w4
  intro X hz4
  obtain ⟨b1, hb1⟩ : ∃ b1, Hid (w3.heap.size = b1) := ⟨_, Lib.hid rfl⟩
  rw [hb1.out] at X hcb3 hz4 ⊢
  have hzw := X.bel.size
  obtain ⟨pb, hpb⟩ : ∃ pb, Hid (b1 + 1 = pb) := ⟨_, Lib.hid rfl⟩
  have hpb1 : cb < pb ∧ b1 < pb ∧ pb < w4.heap.size := by rw [← hpb.out]; omega
  rw [hpb.out] at X ⊢
  clear hz4
  have X1 := X.drew
  have X2 := (X.below (al1 w4 (.cells (k2 b1) 44))).drew
  have X3 := (X.below (al1 w4 (.cells k0 44))).drew
  have X4 := ((X.below (al1 w4 (.cells (k2 b1) 44))).below (al1 _ (.cells k0 44))).drew
  have X5 := ((X.below (al1 w4 (.cells k0 44))).below (al1 _ (.cells (k2 b1) 44))).drew
  have P2 : Blk (w4.alloc (.cells (k2 b1) 44)).drew w4.heap.size (k2 b1) := (Blk.new_ _ _ _).drew
  have P3 : Blk (w4.alloc (.cells k0 44)).drew w4.heap.size k0 := (Blk.new_ _ _ _).drew
  have P4 : Blk ((w4.alloc (.cells (k2 b1) 44)).alloc (.cells k0 44)).drew w4.heap.size (k2 b1) := ((Blk.new_ _ _ _).alloc _).drew
  have P4' : Blk ((w4.alloc (.cells (k2 b1) 44)).alloc (.cells k0 44)).drew (w4.heap.size + 1) k0 := (Blk.new' (by simp)).drew
  have P5 : Blk ((w4.alloc (.cells k0 44)).alloc (.cells (k2 b1) 44)).drew w4.heap.size k0 := ((Blk.new_ _ _ _).alloc _).drew
  have P5' : Blk ((w4.alloc (.cells k0 44)).alloc (.cells (k2 b1) 44)).drew (w4.heap.size + 1) (k2 b1) := (Blk.new' (by simp)).drew
  have c0 := X1.S.1
  have c1 := X1.S.2.1
  have c2 := X1.S.2.2.1
  have c3 := X1.S.2.2.2
  obtain ⟨v0, v1, v2, v3⟩ := X3.S
  obtain ⟨u0, u1, u2, u3⟩ := X.S
  have hpw := hpb1.2.2
  have hb1w : b1 < w4.heap.size := by omega
  have hpw1 : pb < w4.heap.size + 1 := by omega
  have hb1w1 : b1 < w4.heap.size + 1 := by omega
  have hpq : cb < pb := hpb1.1
  have hwc : w.heap.size ≤ cb := by rw [← hcb.out]; exact hy1
  go_cut [3] (fun s3 wx => KnQ w cb pb b1 s3 wx)
  case first =>
    go_region_law (first
      | (go_simp; go_at_call 16; refine (name_any _ _).mono ?_; rintro r w5 ⟨rfl, b5⟩; have Y := X1.below b5; have hY5 := Y.bel.size; have hp5 := Y.bp.lt; have d0 := Y.S.1; have d1 := Y.S.2.1; have d2 := Y.S.2.2.1; have d3 := Y.S.2.2.2)
      | (go_simp; go_at_call 16; refine (name_any _ _).mono ?_; rintro r w5 ⟨rfl, b5⟩; have Y := X2.below b5; have hY5 := Y.bel.size; have hp5 := Y.bp.lt; have YB := P2.below b5 P2.lt; have hB5 := YB.lt; have d0 := Y.S.1; have d1 := Y.S.2.1; have d2 := Y.S.2.2.1; have d3 := Y.S.2.2.2)
      | (go_simp; go_at_call 16; refine (name_any _ _).mono ?_; rintro r w5 ⟨rfl, b5⟩; have Y := X3.below b5; have hY5 := Y.bel.size; have hp5 := Y.bp.lt; have YA := P3.below b5 P3.lt; have d0 := Y.S.1; have d1 := Y.S.2.1; have d2 := Y.S.2.2.1; have d3 := Y.S.2.2.2; obtain ⟨⟨s0, s1, s2, s3⟩, t0, t1, t2, t3⟩ := z4 YA; have hA5 := YA.lt)
      | (go_simp; go_at_call 16; refine (name_any _ _).mono ?_; rintro r w5 ⟨rfl, b5⟩; have Y := X4.below b5; have hY5 := Y.bel.size; have hp5 := Y.bp.lt; have YB := P4.below b5 P4.lt; have hB5 := YB.lt; have YA := P4'.below b5 P4'.lt; have d0 := Y.S.1; have d1 := Y.S.2.1; have d2 := Y.S.2.2.1; have d3 := Y.S.2.2.2; obtain ⟨⟨s0, s1, s2, s3⟩, t0, t1, t2, t3⟩ := z4 YA; have hA5 := YA.lt)
      | (go_simp; go_at_call 16; refine (name_any _ _).mono ?_; rintro r w5 ⟨rfl, b5⟩; have Y := X5.below b5; have hY5 := Y.bel.size; have hp5 := Y.bp.lt; have YA := P5.below b5 P5.lt; have YB := P5'.below b5 P5'.lt; have hB5 := YB.lt; have d0 := Y.S.1; have d1 := Y.S.2.1; have d2 := Y.S.2.2.1; have d3 := Y.S.2.2.2; obtain ⟨⟨s0, s1, s2, s3⟩, t0, t1, t2, t3⟩ := z4 YA; have hA5 := YA.lt))
    all_goals
      go_wp2_with fail
      go_meet
      first
        | with_reducible exact kq_a Y hcb3 hpq _ _ _
        | with_reducible exact kq_b Y hcb3 hpq _ _ _
        | with_reducible exact kq_c Y hcb3 hpq _ _ _
        | with_reducible exact kq_d Y YB hcb3 hpq hpw _ _
        | with_reducible exact kq_d Y YB hcb3 hpq hpw1 _ _
        | with_reducible exact kq_e Y YB hcb3 hpq hpw _ _
        | with_reducible exact kq_e Y YB hcb3 hpq hpw1 _ _
        | with_reducible exact kq_f Y YA hcb3 hpq hpw hb1w _ _ hwc
        | with_reducible exact kq_f Y YA hcb3 hpq hpw1 hb1w1 _ _ hwc
        | with_reducible exact kq_g Y YA YB hcb3 hpq hpw1 hpw hb1w1 _ hwc
        | with_reducible exact kq_g Y YA YB hcb3 hpq hpw hpw1 hb1w _ hwc
  case rest =>
    obtain ⟨ab, b3, b2, rfl, F⟩ := hcut
    clear X1 X2 X3 X4 X5 P2 P3 P4 P4' P5 P5' c0 c1 c2 c3 v0 v1 v2 v3 u0 u1 u2 u3 X hzw hpw hpb1 hcb3 hb1w hpw1 hb1w1 hpq
    obtain ⟨hc0, hc1, hc2, hc3, hc4, hc5, hc6, hc7, hc8, hc9, hc10, hc11, hc12⟩ := c13 F.B.bc
    have he0 : wc.cell? ⟨ab, 0, none⟩ = some (.int .i64 8) := F.ba.c 0 rfl
    have he1 : wc.cell? ⟨ab, 1, none⟩ = some (.int .i64 0) := F.ba.c 1 rfl
    have he2 : wc.cell? ⟨ab, 2, none⟩ = some (.string ⟨#[]⟩) := F.ba.c 2 rfl
    have he3 : wc.cell? ⟨ab, 3, none⟩ = some (.slice (some ⟨b3, 0, none⟩) 2 2) := F.ba.c 3 rfl
    go_wp2_with fail
    refine (cexpr_any cDef (E.kAdd (some ⟨b1, 0, none⟩) (some ⟨b2, 0, none⟩) (some ⟨b3, 0, none⟩)) _ ⟨F.inA, (kbig _ _ _).1⟩ (hT.at F.B.bel)).mono ?_
    rintro r w6 ⟨rfl, b6⟩
    rw [(kn1 _ _ _).1, (kn1 _ _ _).2]
    replace F := F.below b6
    clear hc0 hc1 hc2 hc3 hc4 hc5 hc6 hc7 hc8 hc9 hc10 hc11 hc12 he0 he1 he2 he3 b6
    have hs6 : w6.cell? ⟨cb, 6, none⟩ = some (.int .i64 0) := F.B.bc.c 6 rfl
    have hf6 := F.B.bc.fr 6
    obtain ⟨n1, n2, n3, n4, n5⟩ := F.ne
    have hle := hwc
    have G : KnF w (w6.setCell ⟨cb, 6, none⟩ (.int .i64 2)) cb pb b1 ab b2 b3 cTwo :=
      ⟨F.ba.far n3.symm _, F.l3.far n5.symm _, F.l2.far n4.symm _, ⟨F.B.bc.put 6 _, F.B.bp.far n1.symm _, F.B.l1.far n2.symm _, F.B.bel.setCell hle _⟩, F.ne⟩
    clear n1 n2 n3 n4 n5 hle hy1 hwc
    go_upto_region 6 with (fail)
    revert G
    generalize w6.setCell ⟨cb, 6, none⟩ (.int .i64 2) = w7
    intro G
    clear hs6 hf6 F
    obtain ⟨hc0, hc1, hc2, hc3, hc4, hc5, hc6, hc7, hc8, hc9, hc10, hc11, hc12⟩ := c13 G.B.bc
    have he0 : w7.cell? ⟨ab, 0, none⟩ = some (.int .i64 8) := G.ba.c 0 rfl
    have he1 : w7.cell? ⟨ab, 1, none⟩ = some (.int .i64 0) := G.ba.c 1 rfl
    have he2 : w7.cell? ⟨ab, 2, none⟩ = some (.string ⟨#[]⟩) := G.ba.c 2 rfl
    have he3 : w7.cell? ⟨ab, 3, none⟩ = some (.slice (some ⟨b3, 0, none⟩) 2 2) := G.ba.c 3 rfl
    go_wp2_with fail
    refine (cexpr_any cTwo (E.kAdd (some ⟨b1, 0, none⟩) (some ⟨b2, 0, none⟩) (some ⟨b3, 0, none⟩)) _ ⟨G.inA, (kbig _ _ _).1⟩ (hT.at G.B.bel)).mono ?_
    rintro r w8 ⟨rfl, b8⟩
    rw [(kn2 _ _ _).1, (kn2 _ _ _).2]
    replace G := G.below b8
    clear hc0 hc1 hc2 hc3 hc4 hc5 hc6 hc7 hc8 hc9 hc10 hc11 hc12 he0 he1 he2 he3 b8
    obtain ⟨hc0, hc1, hc2, hc3, hc4, hc5, hc6, hc7, hc8, hc9, hc10, hc11, hc12⟩ := c13 G.B.bc
    obtain ⟨d0, d1, d2, d3⟩ := G.B.S
    go_wp2_with fail
    refine (cplace2_any cTwo (E.kPlace (some ⟨b1, 0, none⟩)) _ ⟨G.B.inP, (kbig (some ⟨b1, 0, none⟩) none none).2⟩ (hT.at G.B.bel)).mono ?_
    rintro r w9 ⟨rfl, b9⟩
    rw [(kn3 _).1, (kn3 _).2]
    replace G := G.below b9
    clear hc0 hc1 hc2 hc3 hc4 hc5 hc6 hc7 hc8 hc9 hc10 hc11 hc12 d0 d1 d2 d3 b9
    have hc10 : w9.cell? ⟨cb, 10, none⟩ = some (.int .i64 8) := G.B.bc.c 10 rfl
    have bl := G.B.bel
    go_wp2_with fail
    go_ret
    exact ⟨rfl, bl⟩
end Go.Proofs.YtmemkcaikajnnaaGreatDoor
