/- Walks: OfBdd of package diagram and Check of package bdd at the diagram of the chapter's example; IndexFunc, DeleteFunc. -/
import Derived.Test.YtdbboeknknlolaaWb
namespace Go.Proofs.Ytdbboeknknlolaa
open Go.RowKit Go.Sort
set_option linter.unusedVariables false

set_option maxRecDepth 100000 in
set_option maxHeartbeats 2000000 in
theorem dofbdd_any (nb : Nat) (w : World) : Calls Try.prog 63 #[.agg #[.int .i64 2, .slice (some ⟨nb, 0, none⟩) 2 2, .int .i64 3]] w fun r w' => (∃ lb : Nat, r = .returned (.agg #[.int .i64 2, .slice (some ⟨lb, 0, none⟩) 2 2, .slice (some ⟨nb, 0, none⟩) 2 2, .int .i64 3])) ∧ Below w.heap.size w w' := by
  have B := Blk.new_ w #[.int .i64 2, .slice (some ⟨nb, 0, none⟩) 2 2, .int .i64 3] 54
  have b1 := al1 w (.cells #[.int .i64 2, .slice (some ⟨nb, 0, none⟩) 2 2, .int .i64 3] 54)
  have Z := Blk.new_ (w.alloc (.cells #[.int .i64 2, .slice (some ⟨nb, 0, none⟩) 2 2, .int .i64 3] 54)) #[.int .i64 0, .slice none 0 0, .slice none 0 0, .int .i64 0] 85
  have hsz : (w.alloc (.cells #[.int .i64 2, .slice (some ⟨nb, 0, none⟩) 2 2, .int .i64 3] 54)).heap.size = w.heap.size + 1 := World.size_alloc _ _
  have b2 := b1.alloc (by rw [hsz]; omega) (.cells #[.int .i64 0, .slice none 0 0, .slice none 0 0, .int .i64 0] 85)
  replace B := B.alloc (.cells #[.int .i64 0, .slice none 0 0, .slice none 0 0, .int .i64 0] 85)
  have hsz2 : ((w.alloc (.cells #[.int .i64 2, .slice (some ⟨nb, 0, none⟩) 2 2, .int .i64 3] 54)).alloc (.cells #[.int .i64 0, .slice none 0 0, .slice none 0 0, .int .i64 0] 85)).heap.size = w.heap.size + 2 := by rw [World.size_alloc, hsz]
  rw [hsz] at Z
  clear b1 hsz
  go_enter Try.func63, Try.ntmps63
  go_upto_region 1 with (fail)
  revert hsz2
  revert b2
  revert Z
  revert B
  generalize (w.alloc (.cells #[.int .i64 2, .slice (some ⟨nb, 0, none⟩) 2 2, .int .i64 3] 54)).alloc (.cells #[.int .i64 0, .slice none 0 0, .slice none 0 0, .int .i64 0] 85) = w1
  intro B Z b2 hsz2
  have c0 := B.c 0 rfl
  have c1 := B.c 1 rfl
  have c2 := B.c 2 rfl
  have B2 := B.alloc (.cells #[.int .i64 0, .int .i64 1] 3)
  have c3 := B2.c 1 rfl
  have c4 := B2.c 2 rfl
  have W := Z.alloc (.cells #[.int .i64 0, .int .i64 1] 3)
  have z0 := W.c 0 rfl
  have z1 := W.c 1 rfl
  have z2 := W.c 2 rfl
  have z3 := W.c 3 rfl
  have f0 := W.fr 0
  have f1 := W.fr 1
  have f2 := W.fr 2
  have f3 := W.fr 3
  have P := (((W.put 0 (.int .i64 2)).put 1 (.slice (some ⟨w1.heap.size, 0, none⟩) 2 2)).put 2 (.slice (some ⟨nb, 0, none⟩) 2 2)).put 3 (.int .i64 3)
  have r0 := P.c 0 rfl
  have r1 := P.c 1 rfl
  have r2 := P.c 2 rfl
  have r3 := P.c 3 rfl
  have b3 := b2.alloc (by omega) (.cells #[.int .i64 0, .int .i64 1] 3)
  have b4 := (((b3.setCell (p := ⟨w.heap.size + 1, 0, none⟩) (by show w.heap.size ≤ w.heap.size + 1; omega) (.int .i64 2)).setCell (p := ⟨w.heap.size + 1, 1, none⟩) (by show w.heap.size ≤ w.heap.size + 1; omega) (.slice (some ⟨w1.heap.size, 0, none⟩) 2 2)).setCell (p := ⟨w.heap.size + 1, 2, none⟩) (by show w.heap.size ≤ w.heap.size + 1; omega) (.slice (some ⟨nb, 0, none⟩) 2 2)).setCell (p := ⟨w.heap.size + 1, 3, none⟩) (by show w.heap.size ≤ w.heap.size + 1; omega) (.int .i64 3)
  clear B B2 Z W P b2 b3 hsz2
  go_wp2_with fail
  refine bodyPost_ret (v := .agg #[.int .i64 2, .slice (some ⟨w1.heap.size, 0, none⟩) 2 2, .slice (some ⟨nb, 0, none⟩) 2 2, .int .i64 3]) (by simp [results, Try.results63, go_sem, r0, r1, r2, r3]) rfl ?_
  exact ⟨⟨_, rfl⟩, b4⟩
theorem isvars_any (w : World) : Calls Try.prog 61 #[.int .i64 2] w fun r w' => r = .returned (.bool true) ∧ w = w' := by
  go_enter Try.func61, Try.ntmps61
  go_wp2_with fail
  go_ret
  exact ⟨rfl, rfl⟩
set_option maxRecDepth 100000 in
set_option maxHeartbeats 2000000 in
theorem bcheck_any (nb : Nat) (w : World) (hn : Blk w nb ndC) : Calls Try.prog 47 #[.agg #[.int .i64 2, .slice (some ⟨nb, 0, none⟩) 2 2, .int .i64 3]] w fun r w' => r = .returned (.int .i64 0) ∧ Below w.heap.size w w' := by
  have B := Blk.new_ w #[.int .i64 2, .slice (some ⟨nb, 0, none⟩) 2 2, .int .i64 3] 54
  have b1 := al1 w (.cells #[.int .i64 2, .slice (some ⟨nb, 0, none⟩) 2 2, .int .i64 3] 54)
  have N := hn.alloc (.cells #[.int .i64 2, .slice (some ⟨nb, 0, none⟩) 2 2, .int .i64 3] 54)
  clear hn
  go_enter Try.func47, Try.ntmps47
  go_upto_region 1 with (fail)
  revert B b1 N
  generalize w.alloc (.cells #[.int .i64 2, .slice (some ⟨nb, 0, none⟩) 2 2, .int .i64 3] 54) = w1
  intro B b1 N
  have c0 := B.c 0 rfl
  have c1 := B.c 1 rfl
  have c2 := B.c 2 rfl
  go_wp2_with fail
  refine (isvars_any _).mono ?_
  rintro r w2 ⟨rfl, rfl⟩
  go_wp2_with fail
  refine (dofbdd_any nb _).mono ?_
  rintro r w2 ⟨⟨lb, rfl⟩, b2⟩
  have N2 := N.below b2 N.lt
  have b3 := bTrans b1 b2
  have HO := Lib.hid (ordered_any lb nb w2 N2)
  clear c0 c1 c2 B N b1 b2 N2
  go_wp2_with fail
  refine HO.out.mono ?_
  rintro r w3 ⟨rfl, b4⟩
  have b5 := bTrans b3 b4
  clear HO b3 b4
  go_wp2_with fail
  go_ret
  exact ⟨rfl, b5⟩
theorem add1_any (x : Int) (w : World) : Calls Try.prog 101 #[.int .i64 x] w fun r w' => r = .returned (.bool (decide (x = -20001))) ∧ w = w' := by
  have HE : Hid ((x == -20001) = decide (x = -20001)) := Lib.hid (by by_cases h : x = -20001 <;> simp [h])
  go_enter Try.func101, Try.ntmps101
  go_wp2_with fail
  go_ret
  exact ⟨ret_bool HE.out, rfl⟩
end Go.Proofs.Ytdbboeknknlolaa
