/- Walks: IsOrdered, OfBdd of package diagram, Check of package bdd, at the diagram of the chapter's example. -/
import Derived.Test.YtdbboeknknlolaaWa
namespace Go.Proofs.Ytdbboeknknlolaa
open Go.RowKit Go.Sort
set_option linter.unusedVariables false

set_option maxRecDepth 100000 in
set_option maxHeartbeats 2000000 in
theorem ordered_any (lb nb : Nat) (w : World) (hn : Blk w nb ndC) : Calls Try.prog 62 #[.agg #[.int .i64 2, .slice (some ⟨lb, 0, none⟩) 2 2, .slice (some ⟨nb, 0, none⟩) 2 2, .int .i64 3]] w fun r w' => r = .returned (.tuple #[.int .i64 2, .bool true]) ∧ Below w.heap.size w w' := by
  have hm2 : madeCells #[Value.bool false] 2 = #[.bool false, .bool false] := by kernel_rfl
  have hmk : ∀ W, (Instr.makeSlice 39 (.int .i64 2) (.int .i64 2)).run Try.prog W = .ok (.slice (some ⟨W.heap.size, 0, none⟩) 2 2) (W.alloc (.cells #[.bool false, .bool false] 4)) := fun W => by
    have := run_make_row' (P := Try.prog) 39 4 (.bool false) 1 Try.underlying39 (by kernel_rfl) rfl .i64 .i64 2 (by omega) (by omega) W
    rw [hm2] at this
    exact this
  clear hm2
  have X1 := Blk.new_ w (dgC lb nb) 85
  have X2 := One.new_ (w.alloc (.cells (dgC lb nb) 85)) (.int .i64 0) 3
  have X1' := X1.alloc (.cells #[.int .i64 0] 3)
  have hsz : (w.alloc (.cells (dgC lb nb) 85)).heap.size = w.heap.size + 1 := World.size_alloc _ _
  have XB : Below w.heap.size w ((w.alloc (.cells (dgC lb nb) 85)).alloc (.cells #[.int .i64 0] 3)) := (al1 _ _).alloc (by rw [hsz]; omega) _
  have XN := hn.below XB hn.lt
  rw [hsz] at X2
  have hnl := hn.lt
  clear X1 hn hsz
  go_enter Try.func62, Try.ntmps62
  go_upto_region 1 with (fail)
  revert X1' X2 XB XN
  generalize (w.alloc (.cells #[.int .i64 2, .slice (some ⟨lb, 0, none⟩) 2 2, .slice (some ⟨nb, 0, none⟩) 2 2, .int .i64 3] 85)).alloc (.cells #[.int .i64 0] 3) = w1
  intro X2 X1 XB XN
  have a0 := X1.c 0 rfl
  have a1 := X1.c 1 rfl
  have a2 := X1.c 2 rfl
  have a3 := X1.c 3 rfl
  have HR := Lib.hid (red_any lb nb w1 XN)
  go_wp2_with fail
  refine HR.out.mono ?_
  rintro r w2 ⟨rfl, b2⟩
  replace X1 := X1.below b2 X1.lt
  replace X2 := X2.below b2 X2.lt
  replace XN := XN.below b2 XN.lt
  replace XB := bTrans XB b2
  clear HR a0 a1 a2 a3
  have a1 := X1.c 1 rfl
  obtain ⟨t, ht⟩ : ∃ t, w2.heap.size = t + 2 := ⟨w2.heap.size - 2, by have := X2.lt; omega⟩
  have hst : w.heap.size ≤ t := by have := X2.lt; omega
  have Y0 := X1
  obtain ⟨w6, hw6⟩ : ∃ w6, w6 = (((w2.alloc (.cells #[.bool false, .bool false] 4)).alloc (.cells #[.slice (some ⟨t + 2, 0, none⟩) 2 2] 39)).alloc (.cells #[.int .i64 0] 3)).alloc (.cells #[fnO w.heap.size t] 63) := ⟨_, rfl⟩
  have S6 : Sd w w6 w.heap.size t lb nb false false 0 0 := by
    subst hw6
    have s3 : (w2.alloc (.cells #[.bool false, .bool false] 4)).heap.size = t + 3 := by rw [World.size_alloc, ht]
    have s4 : ((w2.alloc (.cells #[.bool false, .bool false] 4)).alloc (.cells #[.slice (some ⟨t + 2, 0, none⟩) 2 2] 39)).heap.size = t + 4 := by rw [World.size_alloc, s3]
    have s5 : (((w2.alloc (.cells #[.bool false, .bool false] 4)).alloc (.cells #[.slice (some ⟨t + 2, 0, none⟩) 2 2] 39)).alloc (.cells #[.int .i64 0] 3)).heap.size = t + 5 := by rw [World.size_alloc, s4]
    have m2 := Blk.new_ w2 #[.bool false, .bool false] 4
    rw [ht] at m2
    have m3 := One.new_ (w2.alloc (.cells #[.bool false, .bool false] 4)) (.slice (some ⟨t + 2, 0, none⟩) 2 2) 39
    rw [s3] at m3
    have m4 := One.new_ ((w2.alloc (.cells #[.bool false, .bool false] 4)).alloc (.cells #[.slice (some ⟨t + 2, 0, none⟩) 2 2] 39)) (.int .i64 0) 3
    rw [s4] at m4
    have m5 := One.new_ (((w2.alloc (.cells #[.bool false, .bool false] 4)).alloc (.cells #[.slice (some ⟨t + 2, 0, none⟩) 2 2] 39)).alloc (.cells #[.int .i64 0] 3)) (fnO w.heap.size t) 63
    rw [s5] at m5
    exact ⟨(((X1.alloc _).alloc _).alloc _).alloc _, (((XN.alloc _).alloc _).alloc _).alloc _, (((X2.alloc _).alloc _).alloc _).alloc _, ((m2.alloc _).alloc _).alloc _, (m3.alloc _).alloc _, m4.alloc _, m5, (((XB.alloc (by omega) _).alloc (by rw [s3]; omega) _).alloc (by rw [s4]; omega) _).alloc (by rw [s5]; omega) _, Nat.le_refl _, hst, hnl⟩
  clear X1 X2 XN XB
  go_upto_region 7 with (fail)
  rw [← hw6, show t + 2 + 1 + 1 + 1 = t + 5 from rfl, show t + 2 + 1 + 1 = t + 4 from rfl, show t + 2 + 1 = t + 3 from rfl]
  have HN := Lib.hid (node3 S6)
  have d0 := S6.wk.c
  have d1 := S6.a.c 3 rfl
  clear hw6 S6 a1 hmk ht
  go_wp2_with fail
  refine HN.out.mono ?_
  rintro r w7 ⟨rfl, S7⟩
  have e0 := S7.fn.c
  have e1 := S7.a.c 2 rfl
  have e2 := S7.rc.c
  have g2 := S7.rc.fr 0
  have S8 := S7.rea 2
  have e3 := S8.rc.c
  have bw := S8.bel
  clear d0 d1 HN S7 S8
  go_wp2_with fail
  refine bodyPost_ret (v := .tuple #[.int .i64 2, .bool true]) (by simp [results, Try.results62, go_sem, e3]) rfl ?_
  exact ⟨rfl, bw⟩
end Go.Proofs.Ytdbboeknknlolaa
