/- Walks: copyWith, With, Without. -/
import Derived.Test.YtmdekgbnpbanaaaDoorWg
namespace Go.Proofs.YtmdekgbnpbanaaaDoor
open Go.RowKit
set_option linter.unusedVariables false

theorem sizeU64 : (Tryd.prog.info? 48).map (·.size) = some 1 := by kernel_rfl

/-- the world of With, Without, copyWith: the box, the result's block -/
structure WiInv (w wr : World) (x1 y1 x2 y2 : Value) : Prop where
  t1 : Two wr w.heap.size x1 y1
  t2 : Two wr (w.heap.size + 1) x2 y2
  bel : Below w.heap.size w wr
theorem WiInv.below {w wr wx : World} {x1 y1 x2 y2 : Value} (h : WiInv w wr x1 y1 x2 y2) (hb : Below wr.heap.size wr wx) : WiInv w wx x1 y1 x2 y2 :=
  ⟨h.t1.below hb h.t1.lt, h.t2.below hb h.t2.lt, h.bel.trans (hb.mono h.bel.size)⟩
theorem WiInv.new_ (w : World) (x1 y1 x2 y2 : Value) (T T' : TypeId) : WiInv w ((w.alloc (.cells #[x1, y1] T)).alloc (.cells #[x2, y2] T')) x1 y1 x2 y2 :=
  ⟨(Two.new_ _ _ _ _).alloc _, by simpa using Two.new_ (w.alloc (.cells #[x1, y1] T)) x2 y2 T', (by repeat (first | exact Below.refl _ _ | refine bDrew ?_ _ | refine Below.drew ?_ | refine Below.alloc ?_ (by simp) _ | refine Below.setCell ?_ (by simp) _))⟩
theorem WiInv.alloc {w wr : World} {x1 y1 x2 y2 : Value} (h : WiInv w wr x1 y1 x2 y2) (o : Obj) : WiInv w (wr.alloc o) x1 y1 x2 y2 := ⟨h.t1.alloc o, h.t2.alloc o, h.bel.alloc h.bel.size o⟩

/-- the outcome of With, Without: invalid set, integer out of range -/
theorem copyWith_bad1 (sa : Int) (A : Option Addr) (c : Nat) (ws : List Nat) (i : Int) (w : World) (h : Words w w.heap.size A ws) (hl : ws.length ≤ 140737488351232) (hv : Hid (Kb.validB sa ws = false)) :
    Calls Tryd.prog 51 #[setV sa A ws.length c, .int .i64 i] w (ErrRes 1 w) := by
  unfold setV
  go_enter Tryd.func51, Tryd.ntmps51
  go_wp2_with fail
  have i1 := WiInv.new_ w (.int .i64 sa) (.slice A ws.length c) (.int .i64 0) (.slice none 0 0) 24 24
  refine (bvalid_any sa A c ws _ ((h.below i1.bel).more i1.bel.size) hl).mono ?_
  rintro e w1 ⟨rfl, hb1⟩
  have i2 := i1.below hb1
  rw [hv.out]
  have d10 := i2.t2.c0
  have d11 := i2.t2.c1
  have f10 := i2.t2.fr 0
  have f11 := i2.t2.fr 1
  go_wp2_with fail
  obtain ⟨r0, r1⟩ := two_set w1 (.int .i64 0) (.slice none 0 0) d10 d11
  refine bodyPost_ret (v := .tuple #[setV 0 none 0 0, .int .i64 1]) (by simp [results, Tryd.results51, go_sem, r0, r1, setV]) rfl ?_
  exact ⟨rfl, (i2.bel.setCell (p := ⟨w.heap.size + 1, 0, none⟩) (by simp) _).setCell (p := ⟨w.heap.size + 1, 1, none⟩) (by simp) _⟩

set_option maxRecDepth 100000 in
theorem copyWith_bad3 (n : Nat) (A : Option Addr) (c : Nat) (ws : List Nat) (i : Int) (w : World) (h : Words w w.heap.size A ws) (hl : ws.length ≤ 140737488351232) (hv : Hid (Kb.validB n ws = true)) (hi : ¬ (0 ≤ i ∧ i < (n : Int))) :
    Calls Tryd.prog 51 #[setV n A ws.length c, .int .i64 i] w (ErrRes 3 w) := by
  unfold setV
  by_cases h0 : i < 0
  · clear hi
    go_enter Tryd.func51, Tryd.ntmps51
    go_wp2_with fail
    have i1 := WiInv.new_ w (.int .i64 (n : Int)) (.slice A ws.length c) (.int .i64 0) (.slice none 0 0) 24 24
    refine (bvalid_any n A c ws _ ((h.below i1.bel).more i1.bel.size) hl).mono ?_
    rintro e w1 ⟨rfl, hb1⟩
    have i2 := i1.below hb1
    rw [hv.out]
    have c10 := i2.t1.c0
    have d10 := i2.t2.c0
    have d11 := i2.t2.c1
    have f10 := i2.t2.fr 0
    have f11 := i2.t2.fr 1
    go_wp2_with fail
    obtain ⟨r0, r1⟩ := two_set w1 (.int .i64 0) (.slice none 0 0) d10 d11
    refine bodyPost_ret (v := .tuple #[setV 0 none 0 0, .int .i64 3]) (by simp [results, Tryd.results51, go_sem, r0, r1, setV]) rfl ?_
    exact ⟨rfl, (i2.bel.setCell (p := ⟨w.heap.size + 1, 0, none⟩) (by simp) _).setCell (p := ⟨w.heap.size + 1, 1, none⟩) (by simp) _⟩
  · have h1 : (n : Int) ≤ i := by omega
    clear hi
    go_enter Tryd.func51, Tryd.ntmps51
    go_wp2_with fail
    have i1 := WiInv.new_ w (.int .i64 (n : Int)) (.slice A ws.length c) (.int .i64 0) (.slice none 0 0) 24 24
    refine (bvalid_any n A c ws _ ((h.below i1.bel).more i1.bel.size) hl).mono ?_
    rintro e w1 ⟨rfl, hb1⟩
    have i2 := i1.below hb1
    rw [hv.out]
    have c10 := i2.t1.c0
    have d10 := i2.t2.c0
    have d11 := i2.t2.c1
    have f10 := i2.t2.fr 0
    have f11 := i2.t2.fr 1
    go_wp2_with fail
    obtain ⟨r0, r1⟩ := two_set w1 (.int .i64 0) (.slice none 0 0) d10 d11
    refine bodyPost_ret (v := .tuple #[setV 0 none 0 0, .int .i64 3]) (by simp [results, Tryd.results51, go_sem, r0, r1, setV]) rfl ?_
    exact ⟨rfl, (i2.bel.setCell (p := ⟨w.heap.size + 1, 0, none⟩) (by simp) _).setCell (p := ⟨w.heap.size + 1, 1, none⟩) (by simp) _⟩

/-- a copy of a set: new words -/
def CopyRes (n : Nat) (ws : List Nat) (w : World) (e : Ending) (w' : World) : Prop :=
  ∃ g, w.heap.size ≤ g ∧ e = .returned (.tuple #[setV n (some ⟨g, 0, none⟩) ws.length ws.length, .int .i64 0]) ∧ WBlk w' g ws ∧ Below w.heap.size w w'

theorem copy_run (w1 : World) (ws : List Nat) (b off c : Nat) (hsrc : ∀ j v, (ws.map fun (x : Nat) => Value.int .u64 (x : Int))[j]? = some v → w1.cell? ⟨b, off + j, none⟩ = some v) (hb : b < w1.heap.size) :
    ∃ w2, (Builtin.copy_ #[22, 22] 3 #[.slice (some ⟨w1.heap.size, 0, none⟩) ws.length ws.length, .slice (some ⟨b, off, none⟩) ws.length c]).run Tryd.prog (w1.alloc (.cells (wcells (List.replicate ws.length 0)) 48)) = .ok (goInt ws.length) w2 ∧
      WBlk w2 w1.heap.size ws ∧ Below w1.heap.size (w1.alloc (.cells (wcells (List.replicate ws.length 0)) 48)) w2 := by
  have hnb := WBlk.new_ w1 (List.replicate ws.length 0)
  have h := run_copy_row (P := Tryd.prog) (w1.alloc (.cells (wcells (List.replicate ws.length 0)) 48)) 22 22 3 48 w1.heap.size 0 ws.length ws.length ⟨b, off, none⟩ ws.length c (wcells (List.replicate ws.length 0)) 48 (ws.map fun (x : Nat) => Value.int .u64 (x : Int))
    Tryd.underlying22 sizeU64 hnb (by simp) (fun j v hv => by
      rw [Go.WideShapes.add_plain, World.cell?_alloc_lt _ _ _ hb]; exact hsrc j v hv) (by simp [wcells]) (fun v hv => by obtain ⟨x, _, rfl⟩ := List.mem_map.1 hv; rfl)
  have e : ((wcells (List.replicate ws.length 0)).toList.take 0 ++ (ws.map fun (x : Nat) => Value.int .u64 (x : Int)) ++ (wcells (List.replicate ws.length 0)).toList.drop (0 + (ws.map fun (x : Nat) => Value.int .u64 (x : Int)).length)).toArray = wcells ws := by
    rw [List.drop_eq_nil_of_le (by simp [wcells])]
    simp [wcells]
  rw [e, List.length_map] at h
  exact ⟨_, h, setRow_heap _ _ _ _ _ _ hnb, ⟨rfl, rfl, rfl, by simp [World.setRow], fun k hk => setRow_other _ _ _ _ (by omega)⟩⟩

set_option maxRecDepth 100000 in
set_option maxHeartbeats 1000000 in
theorem copyWith_ok (n : Nat) (A : Option Addr) (c : Nat) (ws : List Nat) (i : Nat) (w : World) (h : Words w w.heap.size A ws) (hok : Kb.Ok n ws) (hn : n ≤ 4096) (hi : i < n) :
    Calls Tryd.prog 51 #[setV n A ws.length c, .int .i64 (i : Int)] w (CopyRes n ws w) := by
  unfold setV
  have hl : ws.length ≤ 64 := by rw [hok.len]; unfold Kb.nw; omega
  have hl0 : 0 < ws.length := by rw [hok.len]; unfold Kb.nw; omega
  have hv : Hid (Kb.validB n ws = true) := Lib.hid ((Kb.validB_iff h.lt).2 ⟨by omega, by omega, hok⟩)
  have hmk := makeWords ws.length (by omega)
  go_enter Tryd.func51, Tryd.ntmps51
  go_wp2_with fail
  have i1 := WiInv.new_ w (.int .i64 (n : Int)) (.slice A ws.length c) (.int .i64 0) (.slice none 0 0) 24 24
  refine (bvalid_any n A c ws _ ((h.below i1.bel).more i1.bel.size) (by omega)).mono ?_
  rintro e w1 ⟨rfl, hb1⟩
  have i2 := i1.below hb1
  rw [hv.out]
  clear i1 hb1
  have hz1 := i2.t1.lt
  have hz2 := i2.t2.lt
  have c10 := i2.t1.c0
  have c11 := i2.t1.c1
  obtain ⟨b, off, hA, hbb, hcells⟩ := (h.below i2.bel).row.cells (by simpa using hl0)
  subst hA
  obtain ⟨w2, hcp, hblk, hb2⟩ := copy_run w1 ws b off c hcells (Nat.lt_of_lt_of_le hbb i2.bel.size)
  clear hcells
  have i3 : WiInv w w2 (.int .i64 (n : Int)) (.slice (some ⟨b, off, none⟩) ws.length c) (.int .i64 0) (.slice none 0 0) :=
    ⟨(i2.t1.alloc _).below hb2 hz1, (i2.t2.alloc _).below hb2 hz2, (i2.bel.alloc i2.bel.size _).trans (hb2.mono i2.bel.size)⟩
  have hgz : w.heap.size + 1 < w1.heap.size := hz2
  have x10 := i3.t1.c0
  have d10 := i3.t2.c0
  have d11 := i3.t2.c1
  have f10 := i3.t2.fr 0
  have f11 := i3.t2.fr 1
  have hi1 : ¬ (n : Int) ≤ (i : Int) := by omega
  go_wp2_with fail
  obtain ⟨r0, r1⟩ := two_set w2 (.int .i64 (n : Int)) (.slice (some ⟨w1.heap.size, 0, none⟩) ws.length ws.length) d10 d11
  refine bodyPost_ret (v := .tuple #[setV n (some ⟨w1.heap.size, 0, none⟩) ws.length ws.length, .int .i64 0]) (by simp [results, Tryd.results51, go_sem, r0, r1, setV]) rfl ?_
  refine ⟨w1.heap.size, by omega, rfl, ?_, (i3.bel.setCell (p := ⟨w.heap.size + 1, 0, none⟩) (by simp) _).setCell (p := ⟨w.heap.size + 1, 1, none⟩) (by simp) _⟩
  exact (hblk.far (p := ⟨w.heap.size + 1, 0, none⟩) (by simp; omega) _).far (p := ⟨w.heap.size + 1, 1, none⟩) (by simp; omega) _
end Go.Proofs.YtmdekgbnpbanaaaDoor
