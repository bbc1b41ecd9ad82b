/- Rows that a call has made itself; slices.Equal at a list and itself; List of package cost. -/
import Derived.Test.YtmemkcaikajnnaaGreatDoorRg
import Derived.OwnWalk
import Derived.Deep.OwnRows
import Derived.Maps.OwnSet
import Derived.Maps.OwnOps
import Derived.Maps.AppendAt
import Derived.Laws.OwnMore
import Derived.Deep.QuietTactic
import Derived.BigQuiet
namespace Go.Proofs.YtmemkcaikajnnaaGreatDoor
open Go.RowKit Go.Sort
set_option linter.unusedVariables false

theorem Row.of_own {w : World} {base e : Nat} {A : Option Addr} {n c : Nat} {xs : List Value} (h : w.ownsRow base e 1 (.slice A n c) n xs) : Row w w.heap.size A xs := ⟨fun hn => by
  rcases h.2 with ⟨_, h0⟩ | ⟨g, cap, cur, hv, _, hg, _⟩
  · have := h.1; omega
  · injection hv with h1 h2 h3
    subst h1
    exact ⟨g, 0, rfl, (Array.getElem?_eq_some_iff.1 hg).1, fun k u hu => by
      have := h.cells (g := g) rfl k u hu
      have e : (⟨g, 0, none⟩ : Addr).add k = ⟨g, 0 + k, none⟩ := by unfold Addr.add; split <;> simp_all
      rwa [e] at this⟩⟩
theorem own_slice {w : World} {base e n : Nat} {v : Value} {xs : List Value} (h : w.ownsRow base e 1 v n xs) : ∃ A c, v = .slice A n c := by
  rcases h.2 with ⟨rfl, rfl⟩ | ⟨g, cap, cur, rfl, _⟩
  · exact ⟨none, 0, rfl⟩
  · exact ⟨_, cap, rfl⟩
theorem infoInt : (Tryz.prog.info? 3).map (fun i => (i.zero, i.size, i.bytes)) = some (some (.int .i64 0), 1, 8) := by kernel_rfl
/-- numbers as values -/
def zvals (zs : List Int) : List Value := zs.map fun x => Value.int .i64 x
theorem zvals_length (zs : List Int) : (zvals zs).length = zs.length := by simp [zvals]
theorem zvals_snoc (zs : List Int) (x : Int) : zvals (zs ++ [x]) = zvals zs ++ [.int .i64 x] := by simp [zvals]
/-- a row of numbers that the call makes, behind a model's box -/
structure LsI (w wr : World) (c : C) (v : Value) (zs : List Int) : Prop where
  own : wr.ownsRow (w.heap.size + 1) 3 1 v zs.length (zvals zs)
  bc : Blk wr w.heap.size c.box
  bel : Below w.heap.size w wr
theorem LsI.grown {w wr w3 : World} {c : C} {v v' : Value} {zs : List Int} {x : Int} {o : Obj} (h : LsI w wr c v zs)
    (ho : w3.ownsRow (w.heap.size + 1) 3 1 v' (zs.length + 1) (zvals zs ++ [.int .i64 x])) (hg : (wr.alloc o).grownBy w3 v.ownBlock) : LsI w w3 c v' (zs ++ [x]) where
  own := by rw [zvals_snoc, List.length_append]; exact ho
  bc := (h.bc.alloc o).grown hg (fun e => by have := (h.own.lt _ e.symm).1; omega)
  bel := (h.bel.alloc h.bel.size o).grown hg (by have := h.bel.size; simp; omega) (fun k e => by have := (h.own.lt k e).1; omega)
end Go.Proofs.YtmemkcaikajnnaaGreatDoor
