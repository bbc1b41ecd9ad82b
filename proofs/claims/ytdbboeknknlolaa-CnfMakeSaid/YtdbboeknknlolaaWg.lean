/- Walks: OfBdd of the package at the chapter's diagram. -/
import Derived.Test.YtdbboeknknlolaaWf
namespace Go.Proofs.Ytdbboeknknlolaa
open Go.RowKit Go.Sort
set_option linter.unusedVariables false

theorem canDs (ds : List Cl) (h : ct ds = canL ls2) : ds.length = 6 ∧ ∀ c ∈ ds, (0 : Int) ∉ c.zs := by
  refine ⟨by have := congrArg List.length h; rw [List.length_map] at this; rw [this]; decide, fun c hc h0 => ?_⟩
  have h4 : c.zs ∈ canL ls2 := by rw [← h]; exact List.mem_map_of_mem hc
  have h5 : ∀ z ∈ canL ls2, (0 : Int) ∉ z := by decide
  exact h5 _ h4 h0
set_option maxRecDepth 100000 in
set_option maxHeartbeats 2000000 in
theorem cofbdd_any (nb : Nat) (w : World) (hn : Blk w nb ndC) : Calls Try.prog 27 #[.agg #[.int .i64 2, .slice (some ⟨nb, 0, none⟩) 2 2, .int .i64 3]] w fun r w' => (∃ A c ds, r = .returned (.tuple #[.agg #[.int .i64 4, .int .i64 2, .slice A ds.length c], .int .i64 0]) ∧ ct ds = canL ls2 ∧ LL w' w'.heap.size A ds) ∧ Below w.heap.size w w' := by
  have B := (Blk.new_ w #[.int .i64 2, .slice (some ⟨nb, 0, none⟩) 2 2, .int .i64 3] 54).alloc (.cells #[.int .i64 0, .int .i64 0, .slice none 0 0] 24)
  have R := Blk.new_ (w.alloc (.cells #[.int .i64 2, .slice (some ⟨nb, 0, none⟩) 2 2, .int .i64 3] 54)) #[.int .i64 0, .int .i64 0, .slice none 0 0] 24
  have b1 := (al1 w (.cells #[.int .i64 2, .slice (some ⟨nb, 0, none⟩) 2 2, .int .i64 3] 54)).alloc (by simp) (.cells #[.int .i64 0, .int .i64 0, .slice none 0 0] 24)
  have N := (hn.alloc (.cells #[.int .i64 2, .slice (some ⟨nb, 0, none⟩) 2 2, .int .i64 3] 54)).alloc (.cells #[.int .i64 0, .int .i64 0, .slice none 0 0] 24)
  have hz : ((w.alloc (.cells #[.int .i64 2, .slice (some ⟨nb, 0, none⟩) 2 2, .int .i64 3] 54)).alloc (.cells #[.int .i64 0, .int .i64 0, .slice none 0 0] 24)).heap.size = w.heap.size + 2 := by simp
  rw [World.size_alloc] at R
  clear hn
  go_enter Try.func27, Try.ntmps27
  go_upto_region 1 with (fail)
  revert B
  revert R
  revert b1
  revert N
  revert hz
  generalize (w.alloc (.cells #[.int .i64 2, .slice (some ⟨nb, 0, none⟩) 2 2, .int .i64 3] 54)).alloc (.cells #[.int .i64 0, .int .i64 0, .slice none 0 0] 24) = w0
  intro hz N b1 R B
  have c0 := B.c 0 rfl
  have c1 := B.c 1 rfl
  have c2 := B.c 2 rfl
  have HC := Lib.hid (bcheck_any nb w0 N)
  go_wp2_with fail
  refine HC.out.mono ?_
  rintro r w2 ⟨rfl, b2⟩
  have N2 := N.below b2 N.lt
  have B2 := B.below b2 (by omega)
  have R2 := R.below b2 (by omega)
  have b3 := b1.trans (b2.mono (by omega : w.heap.size ≤ w0.heap.size))
  have hz2 := b2.size
  have d0 := B2.c 0 rfl
  have d1 := B2.c 1 rfl
  have d2 := B2.c 2 rfl
  have HD := Lib.hid (ofbdd_any nb w2 N2)
  clear HC c0 c1 c2 b1 b2 N B R N2 B2
  go_wp2_with fail
  refine HD.out.mono ?_
  rintro r w5 ⟨⟨A, c, ds, rfl, h1, h2⟩, b5⟩
  have R5 := R2.below b5 (by omega)
  have f0 := R5.fr 0
  have f1 := R5.fr 1
  have f2 := R5.fr 2
  have g0 := R5.c 0 rfl
  have g1 := R5.c 1 rfl
  have g2 := R5.c 2 rfl
  have P := ((R5.put 0 (.int .i64 4)).put 1 (.int .i64 2)).put 2 (.slice A ds.length c)
  have r0 := P.c 0 rfl
  have r1 := P.c 1 rfl
  have r2 := P.c 2 rfl
  have HL5 := Lib.hid (h2.off (W' := ((w5.setCell ⟨w.heap.size + 1, 0, none⟩ (.int .i64 4)).setCell ⟨w.heap.size + 1, 1, none⟩ (.int .i64 2)).setCell ⟨w.heap.size + 1, 2, none⟩ (.slice A ds.length c)) R5 (by have := (canDs ds h1).1; omega) (canDs ds h1).2 (fun q hq => by
    rw [World.cell?_of_block (Below.heap_setCell _ _ _ _ (by exact hq)), World.cell?_of_block (Below.heap_setCell _ _ _ _ (by exact hq)), World.cell?_of_block (Below.heap_setCell _ _ _ _ (by exact hq))]) (by simp [World.setCell]))
  have HB5 := Lib.hid ((((b3.trans (b5.mono (by omega : w.heap.size ≤ w2.heap.size))).setCell (p := ⟨w.heap.size + 1, 0, none⟩) (by show w.heap.size ≤ w.heap.size + 1; omega) (.int .i64 4)).setCell (p := ⟨w.heap.size + 1, 1, none⟩) (by show w.heap.size ≤ w.heap.size + 1; omega) (.int .i64 2)).setCell (p := ⟨w.heap.size + 1, 2, none⟩) (by show w.heap.size ≤ w.heap.size + 1; omega) (.slice A ds.length c))
  have H1 := Lib.hid h1
  clear h1 h2 P b3 b5 R2 R5 HD d0 d1 d2
  go_wp2_with fail
  refine bodyPost_ret (v := .tuple #[.agg #[.int .i64 4, .int .i64 2, .slice A ds.length c], .int .i64 0]) (by simp [results, Try.results27, go_sem, r0, r1, r2]) rfl ?_
  exact ⟨⟨A, c, ds, rfl, H1.out, HL5.out⟩, HB5.out⟩
end Go.Proofs.Ytdbboeknknlolaa
