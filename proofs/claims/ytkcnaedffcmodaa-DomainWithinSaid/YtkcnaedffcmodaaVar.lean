/- Variables and digits in memory. -/
import Derived.Test.YtkcnaedffcmodaaOwn
import Derived.Test.YtkcnaedffcmodaaMath
import Derived.IntWalk
namespace Go.Proofs.Ytkcnaedffcmodaa
open Go.RowKit Go.Maps
set_option linter.unusedVariables false

/-- a list of things of m cells each, flat -/
theorem flatAt {α : Type} (f : α → List Value) (m : Nat) (hf : ∀ a, (f a).length = m) (l : List α) {k j : Nat} (hk : k < l.length) (hj : j < m) : (l.flatMap f)[k * m + j]? = (f l[k])[j]? := by
  induction l generalizing k with
  | nil => exact absurd hk (Nat.not_lt_zero _)
  | cons a l ih =>
    rw [List.flatMap_cons]
    cases k with
    | zero => rw [Nat.zero_mul, Nat.zero_add, List.getElem?_append_left (by rw [hf]; exact hj)]; rfl
    | succ k =>
      rw [List.getElem?_append_right (by rw [hf, Nat.succ_mul]; omega), hf, show (k + 1) * m + j - m = k * m + j by rw [Nat.succ_mul]; omega]
      exact ih (k := k) (by simpa using hk)
theorem flatLen {α : Type} (f : α → List Value) (m : Nat) (hf : ∀ a, (f a).length = m) (l : List α) : (l.flatMap f).length = l.length * m := by
  induction l with
  | nil => simp
  | cons a l ih => rw [List.flatMap_cons, List.length_append, ih, hf, List.length_cons, Nat.succ_mul]; omega

def vcells (v : Kd.V) : List Value := [.string v.nm, .int .i64 v.kd, .int .i64 v.lo, .int .i64 v.hi, .int .i64 v.ini]
def vflat (vs : List Kd.V) : List Value := vs.flatMap vcells
def dcells (d : Int × Nat) : List Value := [.int .i64 d.1, .int .i64 (d.2 : Nat)]
def dflat (ds : List (Int × Nat)) : List Value := ds.flatMap dcells
theorem vflat_len (vs : List Kd.V) : (vflat vs).length = vs.length * 5 := flatLen vcells 5 (fun _ => rfl) vs
theorem dflat_len (ds : List (Int × Nat)) : (dflat ds).length = ds.length * 2 := flatLen dcells 2 (fun _ => rfl) ds
theorem vflat_append (a b : List Kd.V) : vflat (a ++ b) = vflat a ++ vflat b := by unfold vflat; rw [List.flatMap_append]
theorem dflat_append (a b : List (Int × Nat)) : dflat (a ++ b) = dflat a ++ dflat b := by unfold dflat; rw [List.flatMap_append]

def inI (x : Int) : Prop := -9223372036854775808 ≤ x ∧ x ≤ 9223372036854775807
/-- variables in memory -/
structure Vrs (w : World) (B : Nat) (A : Option Addr) (vs : List Kd.V) : Prop where
  row : Row w B A (vflat vs)
  bd : ∀ v ∈ vs, inI v.kd ∧ inI v.lo ∧ inI v.hi ∧ inI v.ini
theorem Vrs.below {w w' : World} {B : Nat} {A : Option Addr} {vs : List Kd.V} (h : Vrs w B A vs) (hb : Below B w w') : Vrs w' B A vs := ⟨h.row.below hb, h.bd⟩
theorem Vrs.more {w : World} {B B' : Nat} {A : Option Addr} {vs : List Kd.V} (h : Vrs w B A vs) (hB : B ≤ B') : Vrs w B' A vs := ⟨h.row.more hB, h.bd⟩
theorem Vrs.at {w w' : World} {A : Option Addr} {vs : List Kd.V} (h : Vrs w w.heap.size A vs) (hb : Below w.heap.size w w') : Vrs w' w'.heap.size A vs := (h.below hb).more hb.size
theorem Vrs.nil (w : World) (B : Nat) (A : Option Addr) : Vrs w B A [] := ⟨Row.nil w B A, fun _ h => by cases h⟩
/-- what is known of the k-th variable -/
structure IsV (vs : List Kd.V) (k : Nat) (nm : ByteArray) (kd lo hi ini : Int) : Prop where
  eq : ∃ h : k < vs.length, vs[k] = ⟨nm, kd, lo, hi, ini⟩
theorem Vrs.at_ {w : World} {B : Nat} {A : Option Addr} {vs : List Kd.V} (h : Vrs w B A vs) {k : Nat} (hk : k < vs.length) :
    ∃ b off nm kd lo hi ini, A = some ⟨b, off, none⟩ ∧ b < B ∧ w.cell? ⟨b, off + k * 5, none⟩ = some (.string nm) ∧ w.cell? ⟨b, off + k * 5 + 1, none⟩ = some (.int .i64 kd)
      ∧ w.cell? ⟨b, off + k * 5 + 2, none⟩ = some (.int .i64 lo) ∧ w.cell? ⟨b, off + k * 5 + 3, none⟩ = some (.int .i64 hi) ∧ w.cell? ⟨b, off + k * 5 + 4, none⟩ = some (.int .i64 ini)
      ∧ IsV vs k nm kd lo hi ini ∧ Hid (inI kd ∧ inI lo ∧ inI hi ∧ inI ini) := by
  obtain ⟨b, off, e, hb, hc⟩ := h.row.cells (by rw [vflat_len]; omega)
  have hf : ∀ j, j < 5 → (vflat vs)[k * 5 + j]? = (vcells vs[k])[j]? := fun j hj => flatAt vcells 5 (fun _ => rfl) vs hk hj
  refine ⟨b, off, (vs[k]).nm, (vs[k]).kd, (vs[k]).lo, (vs[k]).hi, (vs[k]).ini, e, hb, hc _ _ (hf 0 (by omega)), hc _ _ (hf 1 (by omega)), hc _ _ (hf 2 (by omega)), hc _ _ (hf 3 (by omega)), hc _ _ (hf 4 (by omega)), ⟨hk, rfl⟩, Lib.hid (h.bd _ (List.getElem_mem hk))⟩
theorem IsV.take {vs : List Kd.V} {k : Nat} {nm : ByteArray} {kd lo hi ini : Int} (h : IsV vs k nm kd lo hi ini) : vs.take (k + 1) = vs.take k ++ [⟨nm, kd, lo, hi, ini⟩] := by
  obtain ⟨hk, e⟩ := h.eq
  rw [List.take_succ_eq_append_getElem hk, e]
theorem IsV.mem {vs : List Kd.V} {k : Nat} {nm : ByteArray} {kd lo hi ini : Int} (h : IsV vs k nm kd lo hi ini) : (⟨nm, kd, lo, hi, ini⟩ : Kd.V) ∈ vs := by
  obtain ⟨hk, e⟩ := h.eq
  rw [← e]; exact List.getElem_mem hk

/-- digits in memory -/
structure Dgs (w : World) (B : Nat) (A : Option Addr) (ds : List (Int × Nat)) : Prop where
  row : Row w B A (dflat ds)
theorem Dgs.below {w w' : World} {B : Nat} {A : Option Addr} {ds : List (Int × Nat)} (h : Dgs w B A ds) (hb : Below B w w') : Dgs w' B A ds := ⟨h.row.below hb⟩
theorem Dgs.more {w : World} {B B' : Nat} {A : Option Addr} {ds : List (Int × Nat)} (h : Dgs w B A ds) (hB : B ≤ B') : Dgs w B' A ds := ⟨h.row.more hB⟩
theorem Dgs.at {w w' : World} {A : Option Addr} {ds : List (Int × Nat)} (h : Dgs w w.heap.size A ds) (hb : Below w.heap.size w w') : Dgs w' w'.heap.size A ds := (h.below hb).more hb.size
theorem Dgs.nil (w : World) (B : Nat) (A : Option Addr) : Dgs w B A [] := ⟨Row.nil w B A⟩
theorem Dgs.at_ {w : World} {B : Nat} {A : Option Addr} {ds : List (Int × Nat)} (h : Dgs w B A ds) {k : Nat} (hk : k < ds.length) :
    ∃ (b off : Nat) (l : Int) (c : Nat), A = some ⟨b, off, none⟩ ∧ b < B ∧ w.cell? ⟨b, off + k * 2, none⟩ = some (.int .i64 l) ∧ w.cell? ⟨b, off + k * 2 + 1, none⟩ = some (.int .i64 (c : Nat)) ∧ Hid (l = Kd.lof ds k ∧ c = Kd.cf ds k) := by
  obtain ⟨b, off, e, hb, hc⟩ := h.row.cells (by rw [dflat_len]; omega)
  have hf : ∀ j, j < 2 → (dflat ds)[k * 2 + j]? = (dcells ds[k])[j]? := fun j hj => flatAt dcells 2 (fun _ => rfl) ds hk hj
  have e1 : ds.getD k (0, 1) = ds[k] := by rw [List.getD_eq_getElem?_getD, List.getElem?_eq_getElem hk]; rfl
  exact ⟨b, off, (ds[k]).1, (ds[k]).2, e, hb, hc _ _ (hf 0 (by omega)), hc _ _ (hf 1 (by omega)), Lib.hid (by unfold Kd.lof Kd.cf; rw [e1]; exact ⟨rfl, rfl⟩)⟩

theorem own_sliceN {w : World} {base e n size : Nat} {v : Value} {xs : List Value} (h : w.ownsRow base e size v n xs) : ∃ A c, v = .slice A n c := by
  rcases h.2 with ⟨h0, h1⟩ | ⟨g, cap, cur, hv, _⟩
  · exact ⟨none, 0, by rw [h0, h1]⟩
  · exact ⟨_, _, hv⟩
theorem Row.of_ownN {w : World} {base e size : Nat} {A : Option Addr} {n c : Nat} {xs : List Value} (h : w.ownsRow base e size (.slice A n c) n xs) : Row w w.heap.size A xs := ⟨fun hn => by
  rcases h.2 with ⟨_, h0⟩ | ⟨g, cap, cur, hv, _, hg, _⟩
  · have h1 := h.1; rw [h0, Nat.zero_mul] at h1; omega
  · injection hv with h1 h2 h3
    subst h1
    exact ⟨g, 0, rfl, (Array.getElem?_eq_some_iff.1 hg).1, fun k u hu => by
      have := h.cells (g := g) rfl k u hu
      have e : (⟨g, 0, none⟩ : Addr).add k = ⟨g, 0 + k, none⟩ := by unfold Addr.add; split <;> simp_all
      rwa [e] at this⟩⟩
theorem own_belowN {w w' : World} {base e n size : Nat} {v : Value} {xs : List Value} (h : w.ownsRow base e size v n xs) (hb : Below w.heap.size w w') : w'.ownsRow base e size v n xs :=
  h.kept (row := none) ⟨hb.os, hb.tape, hb.output, hb.size, fun k hk _ => hb.block k hk⟩ (by cases hv : v.ownBlock <;> simp)

/-- the block b holds the two values x and y -/
structure Two (w : World) (b : Nat) (x y : Value) : Prop where
  blk : ∃ T, w.heap[b]? = some (.cells #[x, y] T (0, 0))
section
variable {w w' : World} {b : Nat} {x y : Value}
theorem Two.lt (h : Two w b x y) : b < w.heap.size := by obtain ⟨T, h⟩ := h.blk; exact (Array.getElem?_eq_some_iff.1 h).1
theorem Two.c0 (h : Two w b x y) : w.cell? ⟨b, 0, none⟩ = some x := by obtain ⟨T, h⟩ := h.blk; rw [cell_of_row w b 0 _ _ _ h]; rfl
theorem Two.c1 (h : Two w b x y) : w.cell? ⟨b, 1, none⟩ = some y := by obtain ⟨T, h⟩ := h.blk; rw [cell_of_row w b 1 _ _ _ h]; rfl
theorem Two.fr (h : Two w b x y) (k : Nat) : w.frozen? ⟨b, k, none⟩ = false := by obtain ⟨T, h⟩ := h.blk; exact frozen_of_row w b k _ _ h
theorem Two.new_ (w : World) (x y : Value) (T : TypeId) : Two (w.alloc (.cells #[x, y] T)) w.heap.size x y := ⟨T, heap_alloc_new w _⟩
theorem Two.alloc (h : Two w b x y) (o : Obj) : Two (w.alloc o) b x y := by
  have hl := h.lt
  obtain ⟨T, h⟩ := h.blk
  exact ⟨T, (Below.heap_alloc w o b hl).trans h⟩
theorem Two.drewN (h : Two w b x y) (n : Nat) : Two (w.drewN n) b x y := ⟨h.blk⟩
theorem Two.below {B : Nat} (h : Two w b x y) (hb : Below B w w') (hB : b < B) : Two w' b x y := by
  obtain ⟨T, h⟩ := h.blk
  exact ⟨T, (hb.block b hB).trans h⟩
theorem Two.far (h : Two w b x y) {p : Addr} (hp : b ≠ p.block) (u : Value) : Two (w.setCell p u) b x y := by
  obtain ⟨T, h⟩ := h.blk
  exact ⟨T, (Below.heap_setCell w p u b hp).trans h⟩
theorem Two.put (h : Two w b x y) (u v : Value) : Two ((w.setCell ⟨b, 0, none⟩ u).setCell ⟨b, 1, none⟩ v) b u v := by
  obtain ⟨T, h⟩ := h.blk
  exact ⟨T, by simp [World.setCell, Array.getElem?_modify, h]⟩
theorem Two.put0 (h : Two w b x y) (u : Value) : Two (w.setCell ⟨b, 0, none⟩ u) b u y := by
  obtain ⟨T, h⟩ := h.blk
  exact ⟨T, by simp [World.setCell, Array.getElem?_modify, h]⟩
theorem Two.put1 (h : Two w b x y) (v : Value) : Two (w.setCell ⟨b, 1, none⟩ v) b x v := by
  obtain ⟨T, h⟩ := h.blk
  exact ⟨T, by simp [World.setCell, Array.getElem?_modify, h]⟩
theorem Two.grown {row : Option Nat} (h : Two w b x y) (hg : w.grownBy w' row) (hne : some b ≠ row) : Two w' b x y := by
  have hl := h.lt
  obtain ⟨T, h⟩ := h.blk
  exact ⟨T, (hg.block b hl hne).trans h⟩
end

theorem bAlloc {w w1 : World} (h : Below w.heap.size w w1) (o : Obj) : Below w.heap.size w (w1.alloc o) := h.alloc h.size o
theorem newB1 (w : World) (o : Obj) : Below w.heap.size w (w.alloc o) := (Below.refl _ _).alloc (Nat.le_refl _) o
theorem bTrans {w w1 w2 : World} (h : Below w.heap.size w w1) (h2 : Below w1.heap.size w1 w2) : Below w.heap.size w w2 := h.trans (h2.mono h.size)
theorem min2 (a b n : Int) (h : n = min a b) (ts : Array TypeId) (t : TypeId) (W : World) : (Builtin.min_ ts t #[.int .i64 a, .int .i64 b]).run Try.prog W = .ok (.int .i64 n) W := by
  have e : ∀ x y : Int, (if y < x then y else x) = min x y := fun x y => by split <;> omega
  simp [Builtin.min_, Builtin.min2, List.foldlM, e, go_sem, h]
theorem infoDig : (Try.prog.info? 62).map (fun i => (i.zero, i.size, i.bytes)) = some (some (.agg #[.int .i64 0, .int .i64 0]), 2, 16) := by kernel_rfl
theorem infoVar : (Try.prog.info? 51).map (fun i => (i.zero, i.size, i.bytes)) = some (some (.agg #[.string ⟨#[]⟩, .int .i64 0, .int .i64 0, .int .i64 0, .int .i64 0]), 5, 48) := by kernel_rfl
/-- a domain as a value -/
def domV (A : Option Addr) (n c : Nat) (sp : Int) : Value := .agg #[.slice A n c, .int .i64 sp]
end Go.Proofs.Ytkcnaedffcmodaa
