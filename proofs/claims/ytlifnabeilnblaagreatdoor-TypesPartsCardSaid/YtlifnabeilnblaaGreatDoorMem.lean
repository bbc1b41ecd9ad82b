/- Types in memory; boxes of one value. -/
import Derived.Test.YtlifnabeilnblaaGreatDoorW1
import Derived.Test.YtlifnabeilnblaaGreatDoorTree
import Derived.Deep.OwnRows
import Derived.IntWalk
import Derived.Lib.QuietBelow
import Derived.Maps.OwnSet
import Derived.Maps.OwnOps
import Derived.Maps.AppendAt
import Derived.Laws.OwnMore
namespace Go.Proofs.YtlifnabeilnblaaGreatDoor
open Go.RowKit Go.Sort
set_option linter.unusedVariables false

/-- The slice value with the address A reads, below block B, as the cells xs. -/
structure Row (w : World) (B : Nat) (A : Option Addr) (xs : List Value) : Prop where
  cells : 0 < xs.length → ∃ b off, A = some ⟨b, off, none⟩ ∧ b < B ∧ ∀ k u, xs[k]? = some u → w.cell? ⟨b, off + k, none⟩ = some u
theorem Row.nil (w : World) (B : Nat) (A : Option Addr) : Row w B A [] := ⟨fun h => absurd h (by simp)⟩
theorem Row.keep {w w' : World} {B : Nat} {A : Option Addr} {xs : List Value} (h : Row w B A xs) (hk : ∀ p : Addr, p.block < B → w'.cell? p = w.cell? p) : Row w' B A xs :=
  ⟨fun hn => by
    obtain ⟨b, off, e, hb, hc⟩ := h.cells hn
    exact ⟨b, off, e, hb, fun k u hu => (hk ⟨b, off + k, none⟩ hb).trans (hc k u hu)⟩⟩
theorem Row.more {w : World} {B B' : Nat} {A : Option Addr} {xs : List Value} (h : Row w B A xs) (hB : B ≤ B') : Row w B' A xs :=
  ⟨fun hn => by
    obtain ⟨b, off, e, hb, hc⟩ := h.cells hn
    exact ⟨b, off, e, Nat.lt_of_lt_of_le hb hB, hc⟩⟩
theorem Row.below {w w' : World} {B : Nat} {A : Option Addr} {xs : List Value} (h : Row w B A xs) (hb : Below B w w') : Row w' B A xs := h.keep fun _ hp => hb.cell hp

/-- a list of things of m cells each, flat -/
theorem flatAt {α : Type} (f : α → List Value) (m : Nat) (hf : ∀ a, (f a).length = m) (l : List α) {k j : Nat} (hk : k < l.length) (hj : j < m) : (l.flatMap f)[k * m + j]? = (f l[k])[j]? := by
  induction l generalizing k with
  | nil => exact absurd hk (Nat.not_lt_zero _)
  | cons a l ih =>
    rw [List.flatMap_cons]
    cases k with
    | zero => rw [Nat.zero_mul, Nat.zero_add, List.getElem?_append_left (by rw [hf]; exact hj)]; rfl
    | succ k =>
      rw [List.getElem?_append_right (by rw [hf, Nat.succ_mul]; omega), hf, show (k + 1) * m + j - m = k * m + j by rw [Nat.succ_mul]; omega]
      exact ih (k := k) (by simpa using hk)
theorem flatLen {α : Type} (f : α → List Value) (m : Nat) (hf : ∀ a, (f a).length = m) (l : List α) : (l.flatMap f).length = l.length * m := by
  induction l with
  | nil => simp
  | cons a l ih => rw [List.flatMap_cons, List.length_append, ih, hf, List.length_cons, Nat.succ_mul]; omega

def inI (x : Int) : Prop := -9223372036854775808 ≤ x ∧ x ≤ 9223372036854775807
/-- texts as values -/
def svals (l : List ByteArray) : List Value := l.map Value.string
theorem svals_len (l : List ByteArray) : (svals l).length = l.length := by unfold svals; rw [List.length_map]
namespace G
/-- a type as a value -/
abbrev val (e : G) : Value := .agg #[.int .i64 e.kd, .int .i64 e.lo, .int .i64 e.hi, .int .i64 e.sz, .string e.nm, .slice e.na e.ns.length e.nc, .slice e.ad e.ks.length e.cap]
def cells (e : G) : List Value := [.int .i64 e.kd, .int .i64 e.lo, .int .i64 e.hi, .int .i64 e.sz, .string e.nm, .slice e.na e.ns.length e.nc, .slice e.ad e.ks.length e.cap]
abbrev box (e : G) : Array Value := #[.int .i64 e.kd, .int .i64 e.lo, .int .i64 e.hi, .int .i64 e.sz, .string e.nm, .slice e.na e.ns.length e.nc, .slice e.ad e.ks.length e.cap]
def flat (l : List G) : List Value := l.flatMap cells
theorem flat_len (l : List G) : (flat l).length = l.length * 7 := flatLen cells 7 (fun _ => rfl) l
theorem flat_snoc (l : List G) (e : G) : flat (l ++ [e]) = flat l ++ e.cells := by unfold flat; rw [List.flatMap_append]; simp
/-- what holds of a node alone -/
structure Nd (w : World) (B : Nat) (e : G) : Prop where
  kd : inI e.kd
  lo : inI e.lo
  hi : inI e.hi
  sz : inI e.sz
  nm : e.nm.size ≤ 9223372036854775807
  nlen : e.ns.length ≤ 9223372036854775807
  names : ∀ s ∈ e.ns, s.size ≤ 9223372036854775807
  nrow : Row w B e.na (svals e.ns)
  len : e.ks.length ≤ 9223372036854775807
  row : Row w B e.ad (flat e.ks)
mutual
/-- the tree lies in the world w below block B -/
def In (w : World) (B : Nat) : G → Prop | .mk k l h s n a c ns b d ks => Nd w B (.mk k l h s n a c ns b d ks) ∧ InL w B ks
def InL (w : World) (B : Nat) : List G → Prop | [] => True | e :: l => In w B e ∧ InL w B l
end
theorem in_eq {w : World} {B : Nat} (e : G) : In w B e ↔ Nd w B e ∧ InL w B e.ks := by cases e; simp [In, ks]
theorem inL_iff {w : World} {B : Nat} {l : List G} : InL w B l ↔ ∀ e ∈ l, In w B e := by
  induction l with
  | nil => simp [InL]
  | cons a l ih => simp [InL, ih]
theorem Nd.below {w w' : World} {B : Nat} {e : G} (h : Nd w B e) (hb : Below B w w') : Nd w' B e := ⟨h.kd, h.lo, h.hi, h.sz, h.nm, h.nlen, h.names, h.nrow.below hb, h.len, h.row.below hb⟩
theorem Nd.more {w : World} {B B' : Nat} {e : G} (h : Nd w B e) (hB : B ≤ B') : Nd w B' e := ⟨h.kd, h.lo, h.hi, h.sz, h.nm, h.nlen, h.names, h.nrow.more hB, h.len, h.row.more hB⟩
theorem In.map {w w' : World} {B B' : Nat} (hN : ∀ e : G, Nd w B e → Nd w' B' e) (e : G) : In w B e → In w' B' e := by
  induction e using G.ind with
  | h e ih =>
    rw [in_eq, in_eq, inL_iff, inL_iff]
    exact fun ⟨h1, h2⟩ => ⟨hN e h1, fun k hk => ih k hk (h2 k hk)⟩
theorem In.below {w w' : World} {B : Nat} {e : G} (h : In w B e) (hb : Below B w w') : In w' B e := In.map (fun _ h => h.below hb) e h
theorem In.more {w : World} {B B' : Nat} {e : G} (h : In w B e) (hB : B ≤ B') : In w B' e := In.map (fun _ h => h.more hB) e h
theorem In.at {w w' : World} {e : G} (h : In w w.heap.size e) (hb : Below w.heap.size w w') : In w' w'.heap.size e := (h.below hb).more hb.size
theorem In.nd {w : World} {B : Nat} {e : G} (h : In w B e) : Nd w B e := ((in_eq e).1 h).1
theorem In.kids {w : World} {B : Nat} {e : G} (h : In w B e) : InL w B e.ks := ((in_eq e).1 h).2
/-- a list of types in memory -/
structure L (w : World) (B : Nat) (A : Option Addr) (l : List G) : Prop where
  len : l.length ≤ 9223372036854775807
  row : Row w B A (flat l)
  all : ∀ e ∈ l, In w B e
theorem L.below {w w' : World} {B : Nat} {A : Option Addr} {l : List G} (h : L w B A l) (hb : Below B w w') : L w' B A l := ⟨h.len, h.row.below hb, fun e he => (h.all e he).below hb⟩
theorem L.more {w : World} {B B' : Nat} {A : Option Addr} {l : List G} (h : L w B A l) (hB : B ≤ B') : L w B' A l := ⟨h.len, h.row.more hB, fun e he => (h.all e he).more hB⟩
theorem L.at {w w' : World} {A : Option Addr} {l : List G} (h : L w w.heap.size A l) (hb : Below w.heap.size w w') : L w' w'.heap.size A l := (h.below hb).more hb.size
theorem In.l {w : World} {B : Nat} {e : G} (h : In w B e) : L w B e.ad e.ks := ⟨h.nd.len, h.nd.row, inL_iff.1 h.kids⟩
/-- the k-th element of a list, as letters -/
structure Is (l : List G) (k : Nat) (e : G) : Prop where
  eq : ∃ h : k < l.length, l[k] = e
theorem Is.mem {l : List G} {k : Nat} {e : G} (h : Is l k e) : e ∈ l := by obtain ⟨hk, rfl⟩ := h.eq; exact List.getElem_mem hk
theorem Is.take {l : List G} {k : Nat} {e : G} (h : Is l k e) : l.take (k + 1) = l.take k ++ [e] := by
  obtain ⟨hk, rfl⟩ := h.eq
  rw [List.take_succ_eq_append_getElem hk]
/-- the cells of the k-th element -/
structure Elt (w : World) (b o : Nat) (e : G) : Prop where
  c0 : w.cell? ⟨b, o, none⟩ = some (.int .i64 e.kd)
  c1 : w.cell? ⟨b, o + 1, none⟩ = some (.int .i64 e.lo)
  c2 : w.cell? ⟨b, o + 2, none⟩ = some (.int .i64 e.hi)
  c3 : w.cell? ⟨b, o + 3, none⟩ = some (.int .i64 e.sz)
  c4 : w.cell? ⟨b, o + 4, none⟩ = some (.string e.nm)
  c5 : w.cell? ⟨b, o + 5, none⟩ = some (.slice e.na e.ns.length e.nc)
  c6 : w.cell? ⟨b, o + 6, none⟩ = some (.slice e.ad e.ks.length e.cap)
theorem L.at_ {w : World} {B : Nat} {A : Option Addr} {l : List G} (h : L w B A l) {k : Nat} (hk : k < l.length) :
    ∃ (b off : Nat) (e : G), A = some ⟨b, off, none⟩ ∧ b < B ∧ Elt w b (off + k * 7) e ∧ Is l k e ∧ In w B e := by
  obtain ⟨b, off, e, hb, hc⟩ := h.row.cells (by rw [flat_len]; omega)
  have hf : ∀ j, j < 7 → (flat l)[k * 7 + j]? = (cells l[k])[j]? := fun j hj => flatAt cells 7 (fun _ => rfl) l hk hj
  exact ⟨b, off, l[k], e, hb, ⟨hc _ _ (hf 0 (by omega)), hc _ _ (hf 1 (by omega)), hc _ _ (hf 2 (by omega)), hc _ _ (hf 3 (by omega)), hc _ _ (hf 4 (by omega)), hc _ _ (hf 5 (by omega)), hc _ _ (hf 6 (by omega))⟩, ⟨hk, rfl⟩, h.all _ (List.getElem_mem hk)⟩
/-- the k-th name -/
theorem Nd.name_at {w : World} {B : Nat} {e : G} (h : Nd w B e) {k : Nat} (hk : k < e.ns.length) :
    ∃ (b off : Nat), e.na = some ⟨b, off, none⟩ ∧ b < B ∧ w.cell? ⟨b, off + k, none⟩ = some (.string e.ns[k]) := by
  obtain ⟨b, off, e', hb, hc⟩ := h.nrow.cells (by rw [svals_len]; omega)
  exact ⟨b, off, e', hb, hc k _ (by unfold svals; rw [List.getElem?_map, List.getElem?_eq_getElem hk]; rfl)⟩
end G

/-- the block b holds just the values vs, not frozen -/
structure Blk (w : World) (b : Nat) (vs : Array Value) : Prop where
  blk : ∃ T, w.heap[b]? = some (.cells vs T (0, 0))
section
variable {w w' : World} {b : Nat} {vs : Array Value}
theorem Blk.lt (h : Blk w b vs) : b < w.heap.size := by obtain ⟨T, h⟩ := h.blk; exact (Array.getElem?_eq_some_iff.1 h).1
theorem Blk.c (h : Blk w b vs) (k : Nat) {v : Value} (hv : vs[k]? = some v) : w.cell? ⟨b, k, none⟩ = some v := by obtain ⟨T, h⟩ := h.blk; rw [cell_of_row w b k _ _ _ h]; exact hv
theorem Blk.fr (h : Blk w b vs) (k : Nat) : w.frozen? ⟨b, k, none⟩ = false := by obtain ⟨T, h⟩ := h.blk; exact frozen_of_row w b k _ _ h
theorem Blk.new_ (w : World) (vs : Array Value) (T : TypeId) : Blk (w.alloc (.cells vs T)) w.heap.size vs := ⟨T, heap_alloc_new w _⟩
theorem Blk.alloc (h : Blk w b vs) (o : Obj) : Blk (w.alloc o) b vs := by
  have hl := h.lt
  obtain ⟨T, h⟩ := h.blk
  exact ⟨T, (Below.heap_alloc w o b hl).trans h⟩
theorem Blk.drew (h : Blk w b vs) : Blk w.drew b vs := ⟨h.blk⟩
theorem Blk.drewN (h : Blk w b vs) (n : Nat) : Blk (w.drewN n) b vs := ⟨h.blk⟩
theorem Blk.below {B : Nat} (h : Blk w b vs) (hb : Below B w w') (hB : b < B) : Blk w' b vs := by
  obtain ⟨T, h⟩ := h.blk
  exact ⟨T, (hb.block b hB).trans h⟩
theorem Blk.far (h : Blk w b vs) {p : Addr} (hp : b ≠ p.block) (u : Value) : Blk (w.setCell p u) b vs := by
  obtain ⟨T, h⟩ := h.blk
  exact ⟨T, (Below.heap_setCell w p u b hp).trans h⟩
theorem Blk.grown {row : Option Nat} (h : Blk w b vs) (hg : w.grownBy w' row) (hne : some b ≠ row) : Blk w' b vs := by
  have hl := h.lt
  obtain ⟨T, h⟩ := h.blk
  exact ⟨T, (hg.block b hl hne).trans h⟩
theorem Blk.put (h : Blk w b vs) (k : Nat) (u : Value) : Blk (w.setCell ⟨b, k, none⟩ u) b (vs.setIfInBounds k u) := by
  obtain ⟨T, h⟩ := h.blk
  exact ⟨T, by simp [World.setCell, Array.getElem?_modify, h]⟩
end
theorem cell_regrown {w : World} {p : Addr} {v : Value} (h : w.cell? p = some v) (d : Nat) (os : Array Obj) : (grow (redrawn w d) os).cell? p = some v :=
  ((below_regrown w d os).cell (p := p) (World.block_lt_of_cell? w p h)).trans h
/-- the block b is a box with the value x -/
structure One (w : World) (b : Nat) (x : Value) : Prop where
  blk : ∃ T, w.heap[b]? = some (.cells #[x] T (0, 0))
section
variable {w w' : World} {b : Nat} {x : Value}
theorem One.lt (h : One w b x) : b < w.heap.size := by obtain ⟨T, h⟩ := h.blk; exact (Array.getElem?_eq_some_iff.1 h).1
theorem One.c (h : One w b x) : w.cell? ⟨b, 0, none⟩ = some x := by obtain ⟨T, h⟩ := h.blk; rw [cell_of_row w b 0 _ _ _ h]; rfl
theorem One.fr (h : One w b x) (k : Nat) : w.frozen? ⟨b, k, none⟩ = false := by obtain ⟨T, h⟩ := h.blk; exact frozen_of_row w b k _ _ h
theorem One.new_ (w : World) (x : Value) (T : TypeId) : One (w.alloc (.cells #[x] T)) w.heap.size x := ⟨T, heap_alloc_new w _⟩
theorem One.alloc (h : One w b x) (o : Obj) : One (w.alloc o) b x := by
  have hl := h.lt
  obtain ⟨T, h⟩ := h.blk
  exact ⟨T, (Below.heap_alloc w o b hl).trans h⟩
theorem One.drew (h : One w b x) : One w.drew b x := ⟨h.blk⟩
theorem One.drewN (h : One w b x) (n : Nat) : One (w.drewN n) b x := ⟨h.blk⟩
theorem One.below {B : Nat} (h : One w b x) (hb : Below B w w') (hB : b < B) : One w' b x := by
  obtain ⟨T, h⟩ := h.blk
  exact ⟨T, (hb.block b hB).trans h⟩
theorem One.far (h : One w b x) {p : Addr} (hp : b ≠ p.block) (u : Value) : One (w.setCell p u) b x := by
  obtain ⟨T, h⟩ := h.blk
  exact ⟨T, (Below.heap_setCell w p u b hp).trans h⟩
theorem One.put (h : One w b x) (u : Value) : One (w.setCell ⟨b, 0, none⟩ u) b u := by
  obtain ⟨T, h⟩ := h.blk
  exact ⟨T, by simp [World.setCell, Array.getElem?_modify, h]⟩
end
theorem setCell_grown (w : World) (p : Addr) (u : Value) : w.grownBy (w.setCell p u) (some p.block) :=
  ⟨rfl, rfl, rfl, by simp [World.setCell], fun k _ hk => Below.heap_setCell w p u k (fun e => hk (by rw [e]))⟩
theorem grown_set (w : World) (g k : Nat) (u : Value) : w.grownBy (w.setCell ⟨g, k, none⟩ u) (some g) := setCell_grown w ⟨g, k, none⟩ u
theorem grown_cell {w w' : World} {g : Nat} (h : w.grownBy w' (some g)) {b o : Nat} {v : Value} (hc : w.cell? ⟨b, o, none⟩ = some v) (hne : b ≠ g) : w'.cell? ⟨b, o, none⟩ = some v := by
  have hlt := World.block_lt_of_cell? w _ hc
  rw [World.cell?_of_block (h.block b hlt (by simpa using hne))]; exact hc
theorem bGrown {B : Nat} {w w1 : World} {g : Nat} (h : w.grownBy w1 (some g)) (hB : B ≤ g) (hz : B ≤ w.heap.size) : Below B w w1 := (Below.refl B w).grown h hz (fun k e => by cases e; exact hB)
theorem grown_of_below {w w' : World} (h : Below w.heap.size w w') (row : Option Nat) : w.grownBy w' row := ⟨h.os, h.tape, h.output, h.size, fun k hk _ => h.block k hk⟩
theorem grown_refl (w : World) (row : Option Nat) : w.grownBy w row := ⟨rfl, rfl, rfl, Nat.le_refl _, fun _ _ _ => rfl⟩
theorem grown_trans {w w1 w2 : World} {row : Option Nat} (h1 : w.grownBy w1 row) (h2 : w1.grownBy w2 row) : w.grownBy w2 row :=
  ⟨h2.os.trans h1.os, h2.tape.trans h1.tape, h2.output.trans h1.output, Nat.le_trans h1.size h2.size, fun k hk hne => (h2.block k (Nat.lt_of_lt_of_le hk h1.size) hne).trans (h1.block k hk hne)⟩
theorem grown_drew {w w' : World} {row : Option Nat} (h : w.grownBy w' row) : w.grownBy w'.drew row := ⟨h.os, h.tape, h.output, h.size, h.block⟩
theorem grown_alloc (w : World) (o : Obj) (row : Option Nat) : w.grownBy (w.alloc o) row := grown_of_below (al1 w o) row
theorem bAll {B : Nat} {w w1 w2 : World} (h : Below B w w1) (h2 : Below B w1 w2) : Below B w w2 := h.trans h2
end Go.Proofs.YtlifnabeilnblaaGreatDoor
