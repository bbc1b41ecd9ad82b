/- Walks: Of, Default of the reference of package cost. -/
import Derived.Test.YtmemkcaikajnnaaGreatDoorRg
import Derived.RegionTactic
import Derived.BigRegion
import Derived.StillTailTactics
namespace Go.Proofs.YtmemkcaikajnnaaGreatDoor
open Go.RowKit Go.Sort
set_option linter.unusedVariables false

/-- thirteen stores -/
theorem put13 {w : World} {b : Nat} (h : Blk w b #[.int .i64 0, .int .i64 0, .int .i64 0, .int .i64 0, .int .i64 0, .int .i64 0, .int .i64 0, .int .i64 0, .int .i64 0, .int .i64 0, .int .i64 0, .int .i64 0, .int .i64 0]) (c : C) : Blk (((((((((((((w.setCell ⟨b, 0, none⟩ (.int .i64 c.assign)).setCell ⟨b, 1, none⟩ (.int .i64 c.branch)).setCell ⟨b, 2, none⟩ (.int .i64 c.loop)).setCell ⟨b, 3, none⟩ (.int .i64 c.call)).setCell ⟨b, 4, none⟩ (.int .i64 c.output)).setCell ⟨b, 5, none⟩ (.int .i64 c.release)).setCell ⟨b, 6, none⟩ (.int .i64 c.load)).setCell ⟨b, 7, none⟩ (.int .i64 c.index)).setCell ⟨b, 8, none⟩ (.int .i64 c.arith)).setCell ⟨b, 9, none⟩ (.int .i64 c.multiply)).setCell ⟨b, 10, none⟩ (.int .i64 c.divide)).setCell ⟨b, 11, none⟩ (.int .i64 c.compare)).setCell ⟨b, 12, none⟩ (.int .i64 c.logic)) b c.box := by
  have h0 : Blk _ b #[.int .i64 c.assign, .int .i64 0, .int .i64 0, .int .i64 0, .int .i64 0, .int .i64 0, .int .i64 0, .int .i64 0, .int .i64 0, .int .i64 0, .int .i64 0, .int .i64 0, .int .i64 0] := h.put 0 (.int .i64 c.assign)
  have h1 : Blk _ b #[.int .i64 c.assign, .int .i64 c.branch, .int .i64 0, .int .i64 0, .int .i64 0, .int .i64 0, .int .i64 0, .int .i64 0, .int .i64 0, .int .i64 0, .int .i64 0, .int .i64 0, .int .i64 0] := h0.put 1 (.int .i64 c.branch)
  have h2 : Blk _ b #[.int .i64 c.assign, .int .i64 c.branch, .int .i64 c.loop, .int .i64 0, .int .i64 0, .int .i64 0, .int .i64 0, .int .i64 0, .int .i64 0, .int .i64 0, .int .i64 0, .int .i64 0, .int .i64 0] := h1.put 2 (.int .i64 c.loop)
  have h3 : Blk _ b #[.int .i64 c.assign, .int .i64 c.branch, .int .i64 c.loop, .int .i64 c.call, .int .i64 0, .int .i64 0, .int .i64 0, .int .i64 0, .int .i64 0, .int .i64 0, .int .i64 0, .int .i64 0, .int .i64 0] := h2.put 3 (.int .i64 c.call)
  have h4 : Blk _ b #[.int .i64 c.assign, .int .i64 c.branch, .int .i64 c.loop, .int .i64 c.call, .int .i64 c.output, .int .i64 0, .int .i64 0, .int .i64 0, .int .i64 0, .int .i64 0, .int .i64 0, .int .i64 0, .int .i64 0] := h3.put 4 (.int .i64 c.output)
  have h5 : Blk _ b #[.int .i64 c.assign, .int .i64 c.branch, .int .i64 c.loop, .int .i64 c.call, .int .i64 c.output, .int .i64 c.release, .int .i64 0, .int .i64 0, .int .i64 0, .int .i64 0, .int .i64 0, .int .i64 0, .int .i64 0] := h4.put 5 (.int .i64 c.release)
  have h6 : Blk _ b #[.int .i64 c.assign, .int .i64 c.branch, .int .i64 c.loop, .int .i64 c.call, .int .i64 c.output, .int .i64 c.release, .int .i64 c.load, .int .i64 0, .int .i64 0, .int .i64 0, .int .i64 0, .int .i64 0, .int .i64 0] := h5.put 6 (.int .i64 c.load)
  have h7 : Blk _ b #[.int .i64 c.assign, .int .i64 c.branch, .int .i64 c.loop, .int .i64 c.call, .int .i64 c.output, .int .i64 c.release, .int .i64 c.load, .int .i64 c.index, .int .i64 0, .int .i64 0, .int .i64 0, .int .i64 0, .int .i64 0] := h6.put 7 (.int .i64 c.index)
  have h8 : Blk _ b #[.int .i64 c.assign, .int .i64 c.branch, .int .i64 c.loop, .int .i64 c.call, .int .i64 c.output, .int .i64 c.release, .int .i64 c.load, .int .i64 c.index, .int .i64 c.arith, .int .i64 0, .int .i64 0, .int .i64 0, .int .i64 0] := h7.put 8 (.int .i64 c.arith)
  have h9 : Blk _ b #[.int .i64 c.assign, .int .i64 c.branch, .int .i64 c.loop, .int .i64 c.call, .int .i64 c.output, .int .i64 c.release, .int .i64 c.load, .int .i64 c.index, .int .i64 c.arith, .int .i64 c.multiply, .int .i64 0, .int .i64 0, .int .i64 0] := h8.put 9 (.int .i64 c.multiply)
  have h10 : Blk _ b #[.int .i64 c.assign, .int .i64 c.branch, .int .i64 c.loop, .int .i64 c.call, .int .i64 c.output, .int .i64 c.release, .int .i64 c.load, .int .i64 c.index, .int .i64 c.arith, .int .i64 c.multiply, .int .i64 c.divide, .int .i64 0, .int .i64 0] := h9.put 10 (.int .i64 c.divide)
  have h11 : Blk _ b #[.int .i64 c.assign, .int .i64 c.branch, .int .i64 c.loop, .int .i64 c.call, .int .i64 c.output, .int .i64 c.release, .int .i64 c.load, .int .i64 c.index, .int .i64 c.arith, .int .i64 c.multiply, .int .i64 c.divide, .int .i64 c.compare, .int .i64 0] := h10.put 11 (.int .i64 c.compare)
  have h12 : Blk _ b #[.int .i64 c.assign, .int .i64 c.branch, .int .i64 c.loop, .int .i64 c.call, .int .i64 c.output, .int .i64 c.release, .int .i64 c.load, .int .i64 c.index, .int .i64 c.arith, .int .i64 c.multiply, .int .i64 c.divide, .int .i64 c.compare, .int .i64 c.logic] := h11.put 12 (.int .i64 c.logic)
  exact h12
theorem below13 {w w1 : World} {b B : Nat} (h : Below B w w1) (hb : B ≤ b) (c : C) : Below B w (((((((((((((w1.setCell ⟨b, 0, none⟩ (.int .i64 c.assign)).setCell ⟨b, 1, none⟩ (.int .i64 c.branch)).setCell ⟨b, 2, none⟩ (.int .i64 c.loop)).setCell ⟨b, 3, none⟩ (.int .i64 c.call)).setCell ⟨b, 4, none⟩ (.int .i64 c.output)).setCell ⟨b, 5, none⟩ (.int .i64 c.release)).setCell ⟨b, 6, none⟩ (.int .i64 c.load)).setCell ⟨b, 7, none⟩ (.int .i64 c.index)).setCell ⟨b, 8, none⟩ (.int .i64 c.arith)).setCell ⟨b, 9, none⟩ (.int .i64 c.multiply)).setCell ⟨b, 10, none⟩ (.int .i64 c.divide)).setCell ⟨b, 11, none⟩ (.int .i64 c.compare)).setCell ⟨b, 12, none⟩ (.int .i64 c.logic)) :=
  ((((((((((((h.setCell (p := ⟨b, 0, none⟩) hb _).setCell (p := ⟨b, 1, none⟩) hb _).setCell (p := ⟨b, 2, none⟩) hb _).setCell (p := ⟨b, 3, none⟩) hb _).setCell (p := ⟨b, 4, none⟩) hb _).setCell (p := ⟨b, 5, none⟩) hb _).setCell (p := ⟨b, 6, none⟩) hb _).setCell (p := ⟨b, 7, none⟩) hb _).setCell (p := ⟨b, 8, none⟩) hb _).setCell (p := ⟨b, 9, none⟩) hb _).setCell (p := ⟨b, 10, none⟩) hb _).setCell (p := ⟨b, 11, none⟩) hb _).setCell (p := ⟨b, 12, none⟩) hb _
set_option maxRecDepth 100000 in
set_option maxHeartbeats 8000000 in
theorem rof_any (c : C) (b off cp : Nat) (w : World) (h : Zs w w.heap.size (some ⟨b, off, none⟩) c.list) : Calls Tryz.prog 27 #[.slice (some ⟨b, off, none⟩) 13 cp] w fun r w' => r = .returned c.val ∧ Below w.heap.size w w' := by
  have hb : b < w.heap.size := by
    obtain ⟨b', o', e, hb, _⟩ := h.row.cells (by simp [C.list])
    simp at e
    rw [e.1]; exact hb
  have hc : ∀ k u, (c.list.map fun x => Value.int .i64 x)[k]? = some u → w.cell? ⟨b, off + k, none⟩ = some u := by
    obtain ⟨b', o', e, hb, hh⟩ := h.row.cells (by simp [C.list])
    simp at e
    obtain ⟨rfl, rfl⟩ := e
    exact hh
  have h0 : w.cell? ⟨b, off, none⟩ = some (.int .i64 c.assign) := hc 0 _ rfl
  have h1 : w.cell? ⟨b, off + 1, none⟩ = some (.int .i64 c.branch) := hc 1 _ rfl
  have h2 : w.cell? ⟨b, off + 2, none⟩ = some (.int .i64 c.loop) := hc 2 _ rfl
  have h3 : w.cell? ⟨b, off + 3, none⟩ = some (.int .i64 c.call) := hc 3 _ rfl
  have h4 : w.cell? ⟨b, off + 4, none⟩ = some (.int .i64 c.output) := hc 4 _ rfl
  have h5 : w.cell? ⟨b, off + 5, none⟩ = some (.int .i64 c.release) := hc 5 _ rfl
  have h6 : w.cell? ⟨b, off + 6, none⟩ = some (.int .i64 c.load) := hc 6 _ rfl
  have h7 : w.cell? ⟨b, off + 7, none⟩ = some (.int .i64 c.index) := hc 7 _ rfl
  have h8 : w.cell? ⟨b, off + 8, none⟩ = some (.int .i64 c.arith) := hc 8 _ rfl
  have h9 : w.cell? ⟨b, off + 9, none⟩ = some (.int .i64 c.multiply) := hc 9 _ rfl
  have h10 : w.cell? ⟨b, off + 10, none⟩ = some (.int .i64 c.divide) := hc 10 _ rfl
  have h11 : w.cell? ⟨b, off + 11, none⟩ = some (.int .i64 c.compare) := hc 11 _ rfl
  have h12 : w.cell? ⟨b, off + 12, none⟩ = some (.int .i64 c.logic) := hc 12 _ rfl
  have b1 := al1 w (.cells #[.int .i64 0, .int .i64 0, .int .i64 0, .int .i64 0, .int .i64 0, .int .i64 0, .int .i64 0, .int .i64 0, .int .i64 0, .int .i64 0, .int .i64 0, .int .i64 0, .int .i64 0] 23)
  have hZ := Blk.new_ w #[.int .i64 0, .int .i64 0, .int .i64 0, .int .i64 0, .int .i64 0, .int .i64 0, .int .i64 0, .int .i64 0, .int .i64 0, .int .i64 0, .int .i64 0, .int .i64 0, .int .i64 0] 23
  replace h0 := (b1.cell (p := ⟨b, off, none⟩) hb).trans h0
  replace h1 := (b1.cell (p := ⟨b, off + 1, none⟩) hb).trans h1
  replace h2 := (b1.cell (p := ⟨b, off + 2, none⟩) hb).trans h2
  replace h3 := (b1.cell (p := ⟨b, off + 3, none⟩) hb).trans h3
  replace h4 := (b1.cell (p := ⟨b, off + 4, none⟩) hb).trans h4
  replace h5 := (b1.cell (p := ⟨b, off + 5, none⟩) hb).trans h5
  replace h6 := (b1.cell (p := ⟨b, off + 6, none⟩) hb).trans h6
  replace h7 := (b1.cell (p := ⟨b, off + 7, none⟩) hb).trans h7
  replace h8 := (b1.cell (p := ⟨b, off + 8, none⟩) hb).trans h8
  replace h9 := (b1.cell (p := ⟨b, off + 9, none⟩) hb).trans h9
  replace h10 := (b1.cell (p := ⟨b, off + 10, none⟩) hb).trans h10
  replace h11 := (b1.cell (p := ⟨b, off + 11, none⟩) hb).trans h11
  replace h12 := (b1.cell (p := ⟨b, off + 12, none⟩) hb).trans h12
  clear hc h
  go_enter Tryz.func27, Tryz.ntmps27
  go_upto_region 1 with (fail)
  revert b1 hZ h0 h1 h2 h3 h4 h5 h6 h7 h8 h9 h10 h11 h12
  generalize w.alloc (.cells #[.int .i64 0, .int .i64 0, .int .i64 0, .int .i64 0, .int .i64 0, .int .i64 0, .int .i64 0, .int .i64 0, .int .i64 0, .int .i64 0, .int .i64 0, .int .i64 0, .int .i64 0] 23) = w1
  intro b1 hZ h0 h1 h2 h3 h4 h5 h6 h7 h8 h9 h10 h11 h12
  go_wp2_with fail
  go_still_tail 40, (by kernel_rfl)
  repeat still_step
  change wpList _ _ _ _ _ w1.drew
  have b2 : Below w.heap.size w w1.drew := b1.drew
  have hz := hZ.drew
  clear h0 h1 h2 h3 h4 h5 h6 h7 h8 h9 h10 h11 h12 hZ b1
  revert b2 hz
  generalize w1.drew = w2
  intro b2 hz
  have z0 : w2.cell? ⟨w.heap.size, 0, none⟩ = some (.int .i64 0) := hz.c 0 rfl
  have f0 := hz.fr 0
  have z1 : w2.cell? ⟨w.heap.size, 1, none⟩ = some (.int .i64 0) := hz.c 1 rfl
  have f1 := hz.fr 1
  have z2 : w2.cell? ⟨w.heap.size, 2, none⟩ = some (.int .i64 0) := hz.c 2 rfl
  have f2 := hz.fr 2
  have z3 : w2.cell? ⟨w.heap.size, 3, none⟩ = some (.int .i64 0) := hz.c 3 rfl
  have f3 := hz.fr 3
  have z4 : w2.cell? ⟨w.heap.size, 4, none⟩ = some (.int .i64 0) := hz.c 4 rfl
  have f4 := hz.fr 4
  have z5 : w2.cell? ⟨w.heap.size, 5, none⟩ = some (.int .i64 0) := hz.c 5 rfl
  have f5 := hz.fr 5
  have z6 : w2.cell? ⟨w.heap.size, 6, none⟩ = some (.int .i64 0) := hz.c 6 rfl
  have f6 := hz.fr 6
  have z7 : w2.cell? ⟨w.heap.size, 7, none⟩ = some (.int .i64 0) := hz.c 7 rfl
  have f7 := hz.fr 7
  have z8 : w2.cell? ⟨w.heap.size, 8, none⟩ = some (.int .i64 0) := hz.c 8 rfl
  have f8 := hz.fr 8
  have z9 : w2.cell? ⟨w.heap.size, 9, none⟩ = some (.int .i64 0) := hz.c 9 rfl
  have f9 := hz.fr 9
  have z10 : w2.cell? ⟨w.heap.size, 10, none⟩ = some (.int .i64 0) := hz.c 10 rfl
  have f10 := hz.fr 10
  have z11 : w2.cell? ⟨w.heap.size, 11, none⟩ = some (.int .i64 0) := hz.c 11 rfl
  have f11 := hz.fr 11
  have z12 : w2.cell? ⟨w.heap.size, 12, none⟩ = some (.int .i64 0) := hz.c 12 rfl
  have f12 := hz.fr 12
  go_wp2_with fail
  have K := put13 hz c
  have BB := below13 b2 (show w.heap.size ≤ w.heap.size from Nat.le_refl _) c
  revert K BB
  generalize (((((((((((((w2.setCell ⟨w.heap.size, 0, none⟩ (.int .i64 c.assign)).setCell ⟨w.heap.size, 1, none⟩ (.int .i64 c.branch)).setCell ⟨w.heap.size, 2, none⟩ (.int .i64 c.loop)).setCell ⟨w.heap.size, 3, none⟩ (.int .i64 c.call)).setCell ⟨w.heap.size, 4, none⟩ (.int .i64 c.output)).setCell ⟨w.heap.size, 5, none⟩ (.int .i64 c.release)).setCell ⟨w.heap.size, 6, none⟩ (.int .i64 c.load)).setCell ⟨w.heap.size, 7, none⟩ (.int .i64 c.index)).setCell ⟨w.heap.size, 8, none⟩ (.int .i64 c.arith)).setCell ⟨w.heap.size, 9, none⟩ (.int .i64 c.multiply)).setCell ⟨w.heap.size, 10, none⟩ (.int .i64 c.divide)).setCell ⟨w.heap.size, 11, none⟩ (.int .i64 c.compare)).setCell ⟨w.heap.size, 12, none⟩ (.int .i64 c.logic)) = w9
  intro K BB
  obtain ⟨r0, r1, r2, r3, r4, r5, r6, r7, r8, r9, r10, r11, r12⟩ := c13 K
  exact bodyPost_ret (v := c.val) (by simp [results, Tryz.results27, go_sem, r0, r1, r2, r3, r4, r5, r6, r7, r8, r9, r10, r11, r12]) rfl ⟨rfl, BB⟩
end Go.Proofs.YtmemkcaikajnnaaGreatDoor
