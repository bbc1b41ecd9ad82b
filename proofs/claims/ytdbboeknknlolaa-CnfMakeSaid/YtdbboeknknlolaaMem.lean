/- Memory: rows, boxes, rows of the call's own; lists of numbers and lists of such lists; worlds that only grow. -/
import Derived.Test.YtdbboeknknlolaaChecked
import Derived.Test.YtdbboeknknlolaaMath
import Derived.WalkKit
import Derived.WalkSpells
import Derived.WalkLawsBesides
import Derived.Lib.Hide
import Derived.Deep.Draws
import Derived.Outline
import Derived.Deep.QuietTactic
import Derived.BigQuiet
import Derived.Deep.DeepFit
import Derived.Deep.OwnRows
import Derived.IntWalk
import Derived.Lib.QuietBelow
import Derived.Maps.OwnSet
import Derived.Maps.OwnOps
import Derived.Maps.AppendAt
import Derived.Laws.OwnMore
import Derived.OwnWalk
import Derived.Deep.AppendLies
import Derived.Lib.SliceRun
import Derived.Shelf.GgSortFunc.InsertionK
namespace Go.Proofs.Ytdbboeknknlolaa
open Go.RowKit Go.Sort
set_option linter.unusedVariables false

theorem ret_int {k : IntKind} {a b : Int} (h : a = b) : Ending.returned (.int k a) = .returned (.int k b) := by rw [h]
theorem ret_bool {a b : Bool} (h : a = b) : Ending.returned (.bool a) = .returned (.bool b) := by rw [h]
theorem ret_str {a b : ByteArray} (h : a = b) : Ending.returned (.string a) = .returned (.string b) := by rw [h]
theorem bDrew {B : Nat} {a w : World} (h : Below B a w) (n : Nat) : Below B a (w.drewN n) := ⟨h.os, h.tape, h.output, h.size, h.block⟩
theorem al1 (w : World) (o : Obj) : Below w.heap.size w (w.alloc o) := (Below.refl _ _).alloc (Nat.le_refl _) o
theorem bTrans {w w1 w2 : World} (h : Below w.heap.size w w1) (h2 : Below w1.heap.size w1 w2) : Below w.heap.size w w2 := h.trans (h2.mono h.size)
/-- The slice value with the address A reads, below block B, as the cells xs. -/
structure Row (w : World) (B : Nat) (A : Option Addr) (xs : List Value) : Prop where
  cells : 0 < xs.length → ∃ b off, A = some ⟨b, off, none⟩ ∧ b < B ∧ ∀ k u, xs[k]? = some u → w.cell? ⟨b, off + k, none⟩ = some u
theorem Row.nil (w : World) (B : Nat) (A : Option Addr) : Row w B A [] := ⟨fun h => absurd h (by simp)⟩
theorem Row.keep {w w' : World} {B : Nat} {A : Option Addr} {xs : List Value} (h : Row w B A xs) (hk : ∀ p : Addr, p.block < B → w'.cell? p = w.cell? p) : Row w' B A xs :=
  ⟨fun hn => by
    obtain ⟨b, off, e, hb, hc⟩ := h.cells hn
    exact ⟨b, off, e, hb, fun k u hu => (hk ⟨b, off + k, none⟩ hb).trans (hc k u hu)⟩⟩
theorem Row.more {w : World} {B B' : Nat} {A : Option Addr} {xs : List Value} (h : Row w B A xs) (hB : B ≤ B') : Row w B' A xs :=
  ⟨fun hn => by
    obtain ⟨b, off, e, hb, hc⟩ := h.cells hn
    exact ⟨b, off, e, Nat.lt_of_lt_of_le hb hB, hc⟩⟩
theorem Row.below {w w' : World} {B : Nat} {A : Option Addr} {xs : List Value} (h : Row w B A xs) (hb : Below B w w') : Row w' B A xs := h.keep fun _ hp => hb.cell hp

/-- a list of things of m cells each, flat -/
theorem flatAt {α : Type} (f : α → List Value) (m : Nat) (hf : ∀ a, (f a).length = m) (l : List α) {k j : Nat} (hk : k < l.length) (hj : j < m) : (l.flatMap f)[k * m + j]? = (f l[k])[j]? := by
  induction l generalizing k with
  | nil => exact absurd hk (Nat.not_lt_zero _)
  | cons a l ih =>
    rw [List.flatMap_cons]
    cases k with
    | zero => rw [Nat.zero_mul, Nat.zero_add, List.getElem?_append_left (by rw [hf]; exact hj)]; rfl
    | succ k =>
      rw [List.getElem?_append_right (by rw [hf, Nat.succ_mul]; omega), hf, show (k + 1) * m + j - m = k * m + j by rw [Nat.succ_mul]; omega]
      exact ih (k := k) (by simpa using hk)
theorem flatLen {α : Type} (f : α → List Value) (m : Nat) (hf : ∀ a, (f a).length = m) (l : List α) : (l.flatMap f).length = l.length * m := by
  induction l with
  | nil => simp
  | cons a l ih => rw [List.flatMap_cons, List.length_append, ih, hf, List.length_cons, Nat.succ_mul]; omega

def inI (x : Int) : Prop := -9223372036854775808 ≤ x ∧ x ≤ 9223372036854775807
/-- the block b holds just the values vs, not frozen -/
structure Blk (w : World) (b : Nat) (vs : Array Value) : Prop where
  blk : ∃ T, w.heap[b]? = some (.cells vs T (0, 0))
section
variable {w w' : World} {b : Nat} {vs : Array Value}
theorem Blk.lt (h : Blk w b vs) : b < w.heap.size := by obtain ⟨T, h⟩ := h.blk; exact (Array.getElem?_eq_some_iff.1 h).1
theorem Blk.c (h : Blk w b vs) (k : Nat) {v : Value} (hv : vs[k]? = some v) : w.cell? ⟨b, k, none⟩ = some v := by obtain ⟨T, h⟩ := h.blk; rw [cell_of_row w b k _ _ _ h]; exact hv
theorem Blk.fr (h : Blk w b vs) (k : Nat) : w.frozen? ⟨b, k, none⟩ = false := by obtain ⟨T, h⟩ := h.blk; exact frozen_of_row w b k _ _ h
theorem Blk.new_ (w : World) (vs : Array Value) (T : TypeId) : Blk (w.alloc (.cells vs T)) w.heap.size vs := ⟨T, heap_alloc_new w _⟩
theorem Blk.alloc (h : Blk w b vs) (o : Obj) : Blk (w.alloc o) b vs := by
  have hl := h.lt
  obtain ⟨T, h⟩ := h.blk
  exact ⟨T, (Below.heap_alloc w o b hl).trans h⟩
theorem Blk.drew (h : Blk w b vs) : Blk w.drew b vs := ⟨h.blk⟩
theorem Blk.drewN (h : Blk w b vs) (n : Nat) : Blk (w.drewN n) b vs := ⟨h.blk⟩
theorem Blk.below {B : Nat} (h : Blk w b vs) (hb : Below B w w') (hB : b < B) : Blk w' b vs := by
  obtain ⟨T, h⟩ := h.blk
  exact ⟨T, (hb.block b hB).trans h⟩
theorem Blk.far (h : Blk w b vs) {p : Addr} (hp : b ≠ p.block) (u : Value) : Blk (w.setCell p u) b vs := by
  obtain ⟨T, h⟩ := h.blk
  exact ⟨T, (Below.heap_setCell w p u b hp).trans h⟩
theorem Blk.grown {row : Option Nat} (h : Blk w b vs) (hg : w.grownBy w' row) (hne : some b ≠ row) : Blk w' b vs := by
  have hl := h.lt
  obtain ⟨T, h⟩ := h.blk
  exact ⟨T, (hg.block b hl hne).trans h⟩
theorem Blk.put (h : Blk w b vs) (k : Nat) (u : Value) : Blk (w.setCell ⟨b, k, none⟩ u) b (vs.setIfInBounds k u) := by
  obtain ⟨T, h⟩ := h.blk
  exact ⟨T, by simp [World.setCell, Array.getElem?_modify, h]⟩
end
theorem cell_regrown {w : World} {p : Addr} {v : Value} (h : w.cell? p = some v) (d : Nat) (os : Array Obj) : (grow (redrawn w d) os).cell? p = some v :=
  ((below_regrown w d os).cell (p := p) (World.block_lt_of_cell? w p h)).trans h
/-- the block b is a box with the value x -/
structure One (w : World) (b : Nat) (x : Value) : Prop where
  blk : ∃ T, w.heap[b]? = some (.cells #[x] T (0, 0))
section
variable {w w' : World} {b : Nat} {x : Value}
theorem One.lt (h : One w b x) : b < w.heap.size := by obtain ⟨T, h⟩ := h.blk; exact (Array.getElem?_eq_some_iff.1 h).1
theorem One.c (h : One w b x) : w.cell? ⟨b, 0, none⟩ = some x := by obtain ⟨T, h⟩ := h.blk; rw [cell_of_row w b 0 _ _ _ h]; rfl
theorem One.fr (h : One w b x) (k : Nat) : w.frozen? ⟨b, k, none⟩ = false := by obtain ⟨T, h⟩ := h.blk; exact frozen_of_row w b k _ _ h
theorem One.new_ (w : World) (x : Value) (T : TypeId) : One (w.alloc (.cells #[x] T)) w.heap.size x := ⟨T, heap_alloc_new w _⟩
theorem One.alloc (h : One w b x) (o : Obj) : One (w.alloc o) b x := by
  have hl := h.lt
  obtain ⟨T, h⟩ := h.blk
  exact ⟨T, (Below.heap_alloc w o b hl).trans h⟩
theorem One.drew (h : One w b x) : One w.drew b x := ⟨h.blk⟩
theorem One.drewN (h : One w b x) (n : Nat) : One (w.drewN n) b x := ⟨h.blk⟩
theorem One.below {B : Nat} (h : One w b x) (hb : Below B w w') (hB : b < B) : One w' b x := by
  obtain ⟨T, h⟩ := h.blk
  exact ⟨T, (hb.block b hB).trans h⟩
theorem One.far (h : One w b x) {p : Addr} (hp : b ≠ p.block) (u : Value) : One (w.setCell p u) b x := by
  obtain ⟨T, h⟩ := h.blk
  exact ⟨T, (Below.heap_setCell w p u b hp).trans h⟩
theorem One.put (h : One w b x) (u : Value) : One (w.setCell ⟨b, 0, none⟩ u) b u := by
  obtain ⟨T, h⟩ := h.blk
  exact ⟨T, by simp [World.setCell, Array.getElem?_modify, h]⟩
end
theorem setCell_grown (w : World) (p : Addr) (u : Value) : w.grownBy (w.setCell p u) (some p.block) :=
  ⟨rfl, rfl, rfl, by simp [World.setCell], fun k _ hk => Below.heap_setCell w p u k (fun e => hk (by rw [e]))⟩
theorem grown_set (w : World) (g k : Nat) (u : Value) : w.grownBy (w.setCell ⟨g, k, none⟩ u) (some g) := setCell_grown w ⟨g, k, none⟩ u
theorem grown_cell {w w' : World} {g : Nat} (h : w.grownBy w' (some g)) {b o : Nat} {v : Value} (hc : w.cell? ⟨b, o, none⟩ = some v) (hne : b ≠ g) : w'.cell? ⟨b, o, none⟩ = some v := by
  have hlt := World.block_lt_of_cell? w _ hc
  rw [World.cell?_of_block (h.block b hlt (by simpa using hne))]; exact hc
theorem bGrown {B : Nat} {w w1 : World} {g : Nat} (h : w.grownBy w1 (some g)) (hB : B ≤ g) (hz : B ≤ w.heap.size) : Below B w w1 := (Below.refl B w).grown h hz (fun k e => by cases e; exact hB)
theorem grown_of_below {w w' : World} (h : Below w.heap.size w w') (row : Option Nat) : w.grownBy w' row := ⟨h.os, h.tape, h.output, h.size, fun k hk _ => h.block k hk⟩
theorem grown_refl (w : World) (row : Option Nat) : w.grownBy w row := ⟨rfl, rfl, rfl, Nat.le_refl _, fun _ _ _ => rfl⟩
theorem grown_trans {w w1 w2 : World} {row : Option Nat} (h1 : w.grownBy w1 row) (h2 : w1.grownBy w2 row) : w.grownBy w2 row :=
  ⟨h2.os.trans h1.os, h2.tape.trans h1.tape, h2.output.trans h1.output, Nat.le_trans h1.size h2.size, fun k hk hne => (h2.block k (Nat.lt_of_lt_of_le hk h1.size) hne).trans (h1.block k hk hne)⟩
theorem grown_drew {w w' : World} {row : Option Nat} (h : w.grownBy w' row) : w.grownBy w'.drew row := ⟨h.os, h.tape, h.output, h.size, h.block⟩
theorem grown_alloc (w : World) (o : Obj) (row : Option Nat) : w.grownBy (w.alloc o) row := grown_of_below (al1 w o) row
theorem bAll {B : Nat} {w w1 w2 : World} (h : Below B w w1) (h2 : Below B w1 w2) : Below B w w2 := h.trans h2
/-- the cells xs, in a block of S -/
structure RowS (w : World) (S : Nat → Prop) (A : Option Addr) (xs : List Value) : Prop where
  cells : 0 < xs.length → ∃ b off, A = some ⟨b, off, none⟩ ∧ S b ∧ b < w.heap.size ∧ ∀ k u, xs[k]? = some u → w.cell? ⟨b, off + k, none⟩ = some u
theorem RowS.keep {w w' : World} {S S' : Nat → Prop} {A : Option Addr} {xs : List Value} (h : RowS w S A xs) (hk : ∀ p : Addr, S p.block → p.block < w.heap.size → w'.cell? p = w.cell? p) (hs : ∀ b, S b → b < w.heap.size → S' b) (hz : w.heap.size ≤ w'.heap.size) : RowS w' S' A xs :=
  ⟨fun hn => by
    obtain ⟨b, off, e, hb, hl, hc⟩ := h.cells hn
    exact ⟨b, off, e, hs b hb hl, Nat.lt_of_lt_of_le hl hz, fun k u hu => (hk ⟨b, off + k, none⟩ hb hl).trans (hc k u hu)⟩⟩
theorem RowS.row {w : World} {S : Nat → Prop} {A : Option Addr} {xs : List Value} (h : RowS w S A xs) : Row w w.heap.size A xs :=
  ⟨fun hn => by
    obtain ⟨b, off, e, hb, hl, hc⟩ := h.cells hn
    exact ⟨b, off, e, hl, hc⟩⟩
/-- new memory of a call -/
abbrev New (w : World) : Nat → Prop := fun b => w.heap.size ≤ b
theorem own_slice_ {w : World} {base e z n : Nat} {v : Value} {xs : List Value} (h : w.ownsRow base e z v n xs) : ∃ A c, v = .slice A n c := by
  rcases h.2 with ⟨rfl, rfl⟩ | ⟨g, cap, cur, rfl, _⟩
  · exact ⟨none, 0, rfl⟩
  · exact ⟨_, cap, rfl⟩
theorem RowS.of_own {w : World} {base e z : Nat} {A : Option Addr} {n c : Nat} {xs : List Value} (h : w.ownsRow base e z (.slice A n c) n xs) (hz : 0 < z) : RowS w (fun b => base ≤ b) A xs := ⟨fun hn => by
  rcases h.2 with ⟨_, h0⟩ | ⟨g, cap, cur, hv, hb, hg, _⟩
  · have := h.1
    rw [h0, Nat.zero_mul] at this; omega
  · injection hv with h1 h2 h3
    subst h1
    exact ⟨g, 0, rfl, hb, (Array.getElem?_eq_some_iff.1 hg).1, fun k u hu => by
      have := h.cells (g := g) rfl k u hu
      have e : (⟨g, 0, none⟩ : Addr).add k = ⟨g, 0 + k, none⟩ := by unfold Addr.add; split <;> simp_all
      rwa [e] at this⟩⟩
theorem own_mono {w : World} {base base' e z : Nat} {v : Value} {n : Nat} {xs : List Value} (h : w.ownsRow base e z v n xs) (hb : base' ≤ base) : w.ownsRow base' e z v n xs := by
  refine ⟨h.1, ?_⟩
  rcases h.2 with h2 | ⟨g, cap, cur, hv, hg, r⟩
  · exact .inl h2
  · exact .inr ⟨g, cap, cur, hv, Nat.le_trans hb hg, r⟩
theorem own_len {w : World} {base e : Nat} {v : Value} {n : Nat} {xs : List Value} (h : w.ownsRow base e 1 v n xs) : xs.length = n := by have := h.1; omega
theorem infoInt : (Try.prog.info? 3).map (fun i => (i.zero, i.size, i.bytes)) = some (some (.int .i64 0), 1, 8) := by kernel_rfl
theorem infoInts : (Try.prog.info? 34).map (fun i => (i.zero, i.size, i.bytes)) = some (some (.slice none 0 0), 1, 24) := by kernel_rfl
/-- numbers as values -/
def zvals (zs : List Int) : List Value := zs.map fun x => Value.int .i64 x
theorem zvals_length (zs : List Int) : (zvals zs).length = zs.length := by simp [zvals]
theorem zvals_snoc (zs : List Int) (x : Int) : zvals (zs ++ [x]) = zvals zs ++ [.int .i64 x] := by simp [zvals]
/-- a list of numbers in memory -/
structure Zs (w : World) (B : Nat) (A : Option Addr) (zs : List Int) : Prop where
  row : Row w B A (zvals zs)
  rng : ∀ x ∈ zs, inI x
  len : zs.length ≤ 9223372036854775807
section
variable {w w' : World} {B B' : Nat} {A : Option Addr} {zs : List Int}
theorem Zs.below (h : Zs w B A zs) (hb : Below B w w') : Zs w' B A zs := ⟨h.row.below hb, h.rng, h.len⟩
theorem Zs.more (h : Zs w B A zs) (hB : B ≤ B') : Zs w B' A zs := ⟨h.row.more hB, h.rng, h.len⟩
theorem Zs.at (h : Zs w w.heap.size A zs) (hb : Below w.heap.size w w') : Zs w' w'.heap.size A zs := (h.below hb).more hb.size
theorem Zs.at_ (h : Zs w B A zs) {k : Nat} (hk : k < zs.length) :
    ∃ b off x, A = some ⟨b, off, none⟩ ∧ b < B ∧ w.cell? ⟨b, off + k, none⟩ = some (.int .i64 x) ∧ zs[k]? = some x ∧ inI x := by
  obtain ⟨b, off, e, hb, hc⟩ := h.row.cells (by rw [zvals_length]; omega)
  refine ⟨b, off, zs[k], e, hb, hc k _ ?_, List.getElem?_eq_getElem hk, h.rng _ (List.getElem_mem hk)⟩
  unfold zvals
  rw [List.getElem?_map, List.getElem?_eq_getElem hk]; rfl
theorem Zs.nil (w : World) (B : Nat) (A : Option Addr) : Zs w B A [] := ⟨Row.nil _ _ _, fun _ h => absurd h (by simp), by simp⟩
end
/-- a clause in memory: where it lies, its capacity, its numbers -/
structure Cl where
  ad : Option Addr
  cap : Nat
  zs : List Int
abbrev Cl.val (c : Cl) : Value := .slice c.ad c.zs.length c.cap
def cvals (l : List Cl) : List Value := l.map Cl.val
theorem cvals_length (l : List Cl) : (cvals l).length = l.length := by simp [cvals]
theorem cvals_snoc (l : List Cl) (c : Cl) : cvals (l ++ [c]) = cvals l ++ [c.val] := by simp [cvals]
/-- what the clauses say -/
abbrev ct (l : List Cl) : List (List Int) := l.map Cl.zs
/-- a list of clauses in memory -/
structure LL (w : World) (B : Nat) (A : Option Addr) (l : List Cl) : Prop where
  row : Row w B A (cvals l)
  all : ∀ c ∈ l, Zs w B c.ad c.zs
  len : l.length ≤ 9223372036854775807
section
variable {w w' : World} {B B' : Nat} {A : Option Addr} {l : List Cl}
theorem LL.below (h : LL w B A l) (hb : Below B w w') : LL w' B A l := ⟨h.row.below hb, fun c hc => (h.all c hc).below hb, h.len⟩
theorem LL.more (h : LL w B A l) (hB : B ≤ B') : LL w B' A l := ⟨h.row.more hB, fun c hc => (h.all c hc).more hB, h.len⟩
theorem LL.at (h : LL w w.heap.size A l) (hb : Below w.heap.size w w') : LL w' w'.heap.size A l := (h.below hb).more hb.size
theorem LL.at_ (h : LL w B A l) {k : Nat} (hk : k < l.length) :
    ∃ b off c, A = some ⟨b, off, none⟩ ∧ b < B ∧ w.cell? ⟨b, off + k, none⟩ = some (.slice c.ad c.zs.length c.cap) ∧ l[k]? = some c ∧ Zs w B c.ad c.zs := by
  obtain ⟨b, off, e, hb, hc⟩ := h.row.cells (by rw [cvals_length]; omega)
  refine ⟨b, off, l[k], e, hb, hc k _ ?_, List.getElem?_eq_getElem hk, h.all _ (List.getElem_mem hk)⟩
  unfold cvals
  rw [List.getElem?_map, List.getElem?_eq_getElem hk]; rfl
end
/-- the world grew: draws, new blocks, nothing else -/
def Gro (w w' : World) : Prop := ∃ (q : Nat) (os : Array Obj), w' = grow (w.drewN q) os
theorem Gro.refl (w : World) : Gro w w := ⟨0, #[], by simp [World.drewN, grow]⟩
theorem Gro.trans {w w1 w2 : World} (h : Gro w w1) (h2 : Gro w1 w2) : Gro w w2 := by
  obtain ⟨q, os, rfl⟩ := h
  obtain ⟨q2, os2, rfl⟩ := h2
  exact ⟨q + q2, os ++ os2, by simp [World.drewN, grow, Array.append_assoc, Nat.add_assoc]⟩
theorem Gro.al (w : World) (o : Obj) : Gro w (w.alloc o) := ⟨0, #[o], by
  show w.alloc o = ({ w with heap := w.heap ++ #[o] } : World)
  rw [show w.heap ++ #[o] = w.heap.push o by simp]; rfl⟩
theorem Gro.dr (w : World) (n : Nat) : Gro w (w.drewN n) := ⟨n, #[], (grow_empty _).symm⟩
theorem Gro.dr1 (w : World) : Gro w w.drew := ⟨1, #[], by rw [grow_empty]; rfl⟩
theorem Gro.bel {w w' : World} (h : Gro w w') : Below w.heap.size w w' := by
  obtain ⟨q, os, rfl⟩ := h
  exact ⟨rfl, rfl, rfl, by simp [grow, World.drewN], fun k hk => by simp [grow, World.drewN, Array.getElem?_append, hk]⟩
theorem Gro.grown {w w' : World} (h : Gro w w') (row : Option Nat) : w.grownBy w' row := grown_of_below h.bel row
/-- the world drew, nothing else -/
def Dr (w w' : World) : Prop := ∃ q : Nat, w' = w.drewN q
theorem Dr.refl (w : World) : Dr w w := ⟨0, rfl⟩
theorem Dr.trans {w w1 w2 : World} (h : Dr w w1) (h2 : Dr w1 w2) : Dr w w2 := by
  obtain ⟨q, rfl⟩ := h
  obtain ⟨q2, rfl⟩ := h2
  exact ⟨q + q2, by rw [World.drewN_drewN]⟩
theorem Dr.dr (w : World) (n : Nat) : Dr w (w.drewN n) := ⟨n, rfl⟩
theorem Dr.bel {w w' : World} (h : Dr w w') : Below w.heap.size w w' := by obtain ⟨q, rfl⟩ := h; exact (Gro.dr w q).bel
theorem Dr.gro {w w' : World} (h : Dr w w') : Gro w w' := by obtain ⟨q, rfl⟩ := h; exact Gro.dr w q
theorem quiet_of_drew {P : Program} {f : FuncId} {args : Array Value} {w : World} {n : Nat} {v : Value}
    (h : Calls P f args (w.drewN n) fun e w' => e = .returned v ∧ Dr (w.drewN n) w') : Calls P f args (w.drewN n) fun e w'' => e = .returned v ∧ ∃ m, w'' = w.drewN m :=
  h.mono fun _ _ ⟨he, q, hm⟩ => ⟨he, n + q, by rw [hm, World.drewN_drewN]⟩
end Go.Proofs.Ytdbboeknknlolaa
