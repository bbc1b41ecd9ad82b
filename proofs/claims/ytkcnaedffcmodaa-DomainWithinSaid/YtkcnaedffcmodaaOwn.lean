/- Rows of numbers that a call has made itself; what functions hand back. -/
import Derived.Test.YtkcnaedffcmodaaChecked
import Derived.Test.YtkcnaedffcmodaaMem
import Derived.Outline
import Derived.Deep.QuietTactic
import Derived.BigQuiet
import Derived.Deep.DeepFit
import Derived.Handy
import Derived.Deep.OwnRows
import Derived.Maps.OwnSet
import Derived.Maps.OwnOps
import Derived.Maps.AppendAt
import Derived.Laws.OwnMore
namespace Go.Proofs.Ytkcnaedffcmodaa
open Go.RowKit
set_option linter.unusedVariables false

/-- numbers as cells -/
def zcells (ws : List Int) : Array Value := (ws.map fun x => Value.int .i64 x).toArray

theorem zcells_made (n : Nat) : madeCells #[.int .i64 0] n = zcells (List.replicate n 0) := by
  apply Array.ext
  · simp [madeCells, zcells]
  · intro i h1 h2
    simp [madeCells, zcells, Nat.mod_one]

/-- the block g is just the numbers ws, not frozen -/
def IBlk (w : World) (g : Nat) (ws : List Int) : Prop := w.heap[g]? = some (.cells (zcells ws) 3 (0, 0))

theorem IBlk.lt {w : World} {g : Nat} {ws : List Int} (h : IBlk w g ws) : g < w.heap.size := (Array.getElem?_eq_some_iff.1 h).1
theorem IBlk.cell {w : World} {g : Nat} {ws : List Int} (h : IBlk w g ws) {k : Nat} (hk : k < ws.length) : w.cell? ⟨g, k, none⟩ = some (.int .i64 (ws.getD k 0)) := by
  rw [cell_of_row w g k _ _ _ h]
  simp [zcells, hk, List.getD_eq_getElem?_getD]
theorem IBlk.frozen {w : World} {g : Nat} {ws : List Int} (h : IBlk w g ws) (k : Nat) : w.frozen? ⟨g, k, none⟩ = false := frozen_of_row w g k _ _ h
theorem IBlk.new_ (w : World) (ws : List Int) : IBlk (w.alloc (.cells (zcells ws) 3)) w.heap.size ws := heap_alloc_new w _
theorem IBlk.alloc {w : World} {g : Nat} {ws : List Int} (h : IBlk w g ws) (o : Obj) : IBlk (w.alloc o) g ws := (Below.heap_alloc w o g h.lt).trans h
theorem IBlk.drewN {w : World} {g : Nat} {ws : List Int} (h : IBlk w g ws) (n : Nat) : IBlk (w.drewN n) g ws := h
theorem IBlk.drew {w : World} {g : Nat} {ws : List Int} (h : IBlk w g ws) : IBlk w.drew g ws := h
theorem IBlk.below {w w' : World} {g B : Nat} {ws : List Int} (h : IBlk w g ws) (hb : Below B w w') (hg : g < B) : IBlk w' g ws := (hb.block g hg).trans h
theorem IBlk.far {w : World} {g : Nat} {ws : List Int} (h : IBlk w g ws) {p : Addr} (hp : g ≠ p.block) (u : Value) : IBlk (w.setCell p u) g ws := (Below.heap_setCell w p u g hp).trans h
theorem IBlk.set_ {w : World} {g : Nat} {ws : List Int} (h : IBlk w g ws) (k : Nat) (x : Int) : IBlk (w.setCell ⟨g, k, none⟩ (.int .i64 x)) g (ws.set k x) := by
  have h' : w.heap[g]? = some (.cells (zcells ws) 3 (0, 0)) := h
  show ((w.setCell ⟨g, k, none⟩ (.int .i64 x)).heap)[g]? = some (.cells (zcells (ws.set k x)) 3 (0, 0))
  have e : zcells (ws.set k x) = (zcells ws).setIfInBounds k (.int .i64 x) := by
    unfold zcells
    rw [List.map_set]
    simp
  rw [e]
  simp [World.setCell, Array.getElem?_modify, h']
theorem IBlk.ints {w : World} {g B : Nat} {ws : List Int} (h : IBlk w g ws) (hg : g < B) (hlt : ∀ x ∈ ws, -9223372036854775808 ≤ x ∧ x ≤ 9223372036854775807) : Ints w B (some ⟨g, 0, none⟩) ws :=
  ⟨⟨fun _ => ⟨g, 0, rfl, hg, fun k u hu => by
    rw [Nat.zero_add, cell_of_row w g k _ _ _ h]
    simpa [zcells] using hu⟩⟩, hlt⟩

/-- a row that is owned reads as its cells -/
theorem Row.of_own {w : World} {base e : Nat} {A : Option Addr} {n c : Nat} {xs : List Value} (h : w.ownsRow base e 1 (.slice A n c) n xs) : Row w w.heap.size A xs := ⟨fun hn => by
  rcases h.2 with ⟨_, h0⟩ | ⟨g, cap, cur, hv, _, hg, _⟩
  · have := h.1; omega
  · injection hv with h1 h2 h3
    subst h1
    exact ⟨g, 0, rfl, (Array.getElem?_eq_some_iff.1 hg).1, fun k u hu => by
      have := h.cells (g := g) rfl k u hu
      have e : (⟨g, 0, none⟩ : Addr).add k = ⟨g, 0 + k, none⟩ := by unfold Addr.add; split <;> simp_all
      rwa [e] at this⟩⟩

theorem makeInts (n : Nat) (hn : n ≤ 1000000) (W : World) : (Instr.makeSlice 29 (.int .i64 (n : Int)) (.int .i64 (n : Int))).run Try.prog W = .ok (.slice (some ⟨W.heap.size, 0, none⟩) n n) (W.alloc (.cells (zcells (List.replicate n 0)) 3)) := by
  have h := run_make_row' (P := Try.prog) 29 3 (.int .i64 0) 8 Try.underlying29 (by kernel_rfl) rfl .i64 .i64 n (by omega) (by omega) W
  rw [zcells_made] at h
  exact h

theorem IBlk.grown {w w' : World} {g : Nat} {ws : List Int} {row : Option Nat} (h : IBlk w g ws) (hg : w.grownBy w' row) (hne : some g ≠ row) : IBlk w' g ws := (hg.block g h.lt hne).trans h

/-- a new list of numbers -/
def IntsRes (zs : List Int) (w : World) (e : Ending) (w' : World) : Prop :=
  ∃ A c, e = .returned (.slice A zs.length c) ∧ Ints w' w'.heap.size A zs ∧ Below w.heap.size w w'

theorem own_below {w w' : World} {base e n : Nat} {v : Value} {xs : List Value} (h : w.ownsRow base e 1 v n xs) (hb : Below w.heap.size w w') : w'.ownsRow base e 1 v n xs :=
  h.kept (row := none) ⟨hb.os, hb.tape, hb.output, hb.size, fun k hk _ => hb.block k hk⟩ (by cases hv : v.ownBlock <;> simp)
theorem own_slice {w : World} {base e n : Nat} {v : Value} {xs : List Value} (h : w.ownsRow base e 1 v n xs) : ∃ A c, v = .slice A n c := by
  rcases h.2 with ⟨rfl, rfl⟩ | ⟨g, cap, cur, rfl, _⟩
  · exact ⟨none, 0, rfl⟩
  · exact ⟨_, cap, rfl⟩
theorem infoInt : (Try.prog.info? 3).map (fun i => (i.zero, i.size, i.bytes)) = some (some (.int .i64 0), 1, 8) := by kernel_rfl
theorem lawInt : Maps.Keyed Try.prog 3 := Maps.int_keyed Try.underlying3
theorem zeroInt (w : World) : (zeroValue 3).run Try.prog w = .ok (.int .i64 0) w := by kernel_rfl
/-- numbers as values -/
def zvals (zs : List Int) : List Value := zs.map fun x => Value.int .i64 x
theorem zvals_length (zs : List Int) : (zvals zs).length = zs.length := by simp [zvals]
theorem zvals_snoc (zs : List Int) (x : Int) : zvals (zs ++ [x]) = zvals zs ++ [.int .i64 x] := by simp [zvals]
theorem ints_of_own {w : World} {base : Nat} {A : Option Addr} {c : Nat} {zs : List Int} (h : w.ownsRow base 3 1 (.slice A zs.length c) zs.length (zvals zs)) (hlt : ∀ x ∈ zs, -9223372036854775808 ≤ x ∧ x ≤ 9223372036854775807) : Ints w w.heap.size A zs :=
  ⟨Row.of_own h, hlt⟩
theorem wf_int {x : Int} (h : -9223372036854775808 ≤ x ∧ x ≤ 9223372036854775807) : (Lit.int .i64 x).wf = true := by
  simpa [Lit.wf, IntKind.min, IntKind.max, IntKind.signed, IntKind.bits] using h
end Go.Proofs.Ytkcnaedffcmodaa
