/- Walks: copyWith, With, Without. -/
import Derived.Test.YtckenemkfegopaaDoorWg
namespace Go.Proofs.YtckenemkfegopaaDoor
open Go.RowKit
set_option linter.unusedVariables false

theorem sizeU64 : (Tryd.prog.info? 57).map (·.size) = some 1 := by kernel_rfl

/-- the world of With, Without, copyWith: the box, the result's block -/
structure WiInv (w wr : World) (x1 y1 x2 y2 : Value) : Prop where
  t1 : Two wr w.heap.size x1 y1
  t2 : Two wr (w.heap.size + 1) x2 y2
  bel : Below w.heap.size w wr
theorem WiInv.below {w wr wx : World} {x1 y1 x2 y2 : Value} (h : WiInv w wr x1 y1 x2 y2) (hb : Below wr.heap.size wr wx) : WiInv w wx x1 y1 x2 y2 :=
  ⟨h.t1.below hb h.t1.lt, h.t2.below hb h.t2.lt, h.bel.trans (hb.mono h.bel.size)⟩
theorem WiInv.new_ (w : World) (x1 y1 x2 y2 : Value) (T T' : TypeId) : WiInv w ((w.alloc (.cells #[x1, y1] T)).alloc (.cells #[x2, y2] T')) x1 y1 x2 y2 :=
  ⟨(Two.new_ _ _ _ _).alloc _, by simpa using Two.new_ (w.alloc (.cells #[x1, y1] T)) x2 y2 T', (by repeat (first | exact Below.refl _ _ | refine bDrew ?_ _ | refine Below.drew ?_ | refine Below.alloc ?_ (by simp) _ | refine Below.setCell ?_ (by simp) _))⟩
theorem WiInv.alloc {w wr : World} {x1 y1 x2 y2 : Value} (h : WiInv w wr x1 y1 x2 y2) (o : Obj) : WiInv w (wr.alloc o) x1 y1 x2 y2 := ⟨h.t1.alloc o, h.t2.alloc o, h.bel.alloc h.bel.size o⟩

/-- a copy of a set: new words -/
def CopyRes (n : Nat) (ws : List Nat) (w : World) (e : Ending) (w' : World) : Prop :=
  ∃ g, w.heap.size ≤ g ∧ e = .returned (.tuple #[setV n (some ⟨g, 0, none⟩) ws.length ws.length, .int .i64 0]) ∧ WBlk w' g ws ∧ Below w.heap.size w w'

theorem copy_run (w1 : World) (ws : List Nat) (b off c : Nat) (hsrc : ∀ j v, (ws.map fun (x : Nat) => Value.int .u64 (x : Int))[j]? = some v → w1.cell? ⟨b, off + j, none⟩ = some v) (hb : b < w1.heap.size) :
    ∃ w2, (Builtin.copy_ #[44, 44] 3 #[.slice (some ⟨w1.heap.size, 0, none⟩) ws.length ws.length, .slice (some ⟨b, off, none⟩) ws.length c]).run Tryd.prog (w1.alloc (.cells (wcells (List.replicate ws.length 0)) 57)) = .ok (goInt ws.length) w2 ∧
      WBlk w2 w1.heap.size ws ∧ Below w1.heap.size (w1.alloc (.cells (wcells (List.replicate ws.length 0)) 57)) w2 := by
  have hnb := WBlk.new_ w1 (List.replicate ws.length 0)
  have h := run_copy_row (P := Tryd.prog) (w1.alloc (.cells (wcells (List.replicate ws.length 0)) 57)) 44 44 3 57 w1.heap.size 0 ws.length ws.length ⟨b, off, none⟩ ws.length c (wcells (List.replicate ws.length 0)) 57 (ws.map fun (x : Nat) => Value.int .u64 (x : Int))
    Tryd.underlying44 sizeU64 hnb (by simp) (fun j v hv => by
      rw [Go.WideShapes.add_plain, World.cell?_alloc_lt _ _ _ hb]; exact hsrc j v hv) (by simp [wcells]) (fun v hv => by obtain ⟨x, _, rfl⟩ := List.mem_map.1 hv; rfl)
  have e : ((wcells (List.replicate ws.length 0)).toList.take 0 ++ (ws.map fun (x : Nat) => Value.int .u64 (x : Int)) ++ (wcells (List.replicate ws.length 0)).toList.drop (0 + (ws.map fun (x : Nat) => Value.int .u64 (x : Int)).length)).toArray = wcells ws := by
    rw [List.drop_eq_nil_of_le (by simp [wcells])]
    simp [wcells]
  rw [e, List.length_map] at h
  exact ⟨_, h, setRow_heap _ _ _ _ _ _ hnb, ⟨rfl, rfl, rfl, by simp [World.setRow], fun k hk => setRow_other _ _ _ _ (by omega)⟩⟩

end Go.Proofs.YtckenemkfegopaaDoor
