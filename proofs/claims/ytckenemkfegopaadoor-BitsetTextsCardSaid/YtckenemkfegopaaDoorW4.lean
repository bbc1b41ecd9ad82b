/- Walks: New, Of. -/
import Derived.Test.YtckenemkfegopaaDoorW1
import Derived.Test.YtckenemkfegopaaDoorW2
import Derived.Handy
namespace Go.Proofs.YtckenemkfegopaaDoor
open Go.RowKit
set_option linter.unusedVariables false

theorem makeWords (n : Nat) (hn : n ≤ 4096) (W : World) : (Instr.makeSlice 44 (.int .i64 (n : Int)) (.int .i64 (n : Int))).run Tryd.prog W = .ok (.slice (some ⟨W.heap.size, 0, none⟩) n n) (W.alloc (.cells (wcells (List.replicate n 0)) 57)) := by
  have h := run_make_row' (P := Tryd.prog) 44 57 (.int .u64 0) 8 Tryd.underlying44 (by kernel_rfl) rfl .i64 .i64 n (by omega) (by omega) W
  rw [wcells_made] at h
  exact h

set_option maxRecDepth 100000 in
set_option maxHeartbeats 400000 in
theorem new_ok (n : Nat) (hn : n ≤ 4096) (w : World) :
    Calls Tryd.prog 124 #[.int .i64 (n : Int)] w fun e w' => ∃ g, w.heap.size ≤ g ∧ e = .returned (.tuple #[setV n (some ⟨g, 0, none⟩) (Kb.nw n) (Kb.nw n), .int .i64 0]) ∧ WBlk w' g (List.replicate (Kb.nw n) 0) ∧ Below w.heap.size w w' := by
  obtain ⟨m, hm⟩ : ∃ m : Nat, Hid (m = Kb.nw (n : Int).toNat) := ⟨_, Lib.hid rfl⟩
  have hm2 : m ≤ 4096 := by rw [hm.out]; unfold Kb.nw; omega
  have hmk := makeWords m hm2
  go_enter Tryd.func124, Tryd.ntmps124
  go_wp2_with (first | (go_at_call 126; refine (isSize_yes _ (by omega) (by omega) _).mono ?_; rintro e w' ⟨rfl, rfl⟩) | (go_at_call 127; refine (wordsFor_int _ (by omega) (by omega) m hm _).mono ?_; rintro e w' ⟨rfl, rfl⟩))
  rw [show Kb.nw n = m from by rw [hm.out]; rfl]
  go_returns
  exact ⟨w.heap.size + 1, by omega, rfl, by simpa using WBlk.new_ (w.alloc (.cells #[.int .i64 (n : Int), .slice (some ⟨w.heap.size + 1, 0, none⟩) m m] 46)) (List.replicate m 0), (by repeat (first | exact Below.refl _ _ | refine bDrew ?_ _ | refine Below.drew ?_ | refine Below.alloc ?_ (by simp) _ | refine Below.setCell ?_ (by simp) _))⟩

set_option maxRecDepth 100000 in
set_option maxHeartbeats 400000 in
theorem new_bad (n : Int) (hn : ¬ (0 ≤ n ∧ n ≤ 4096)) (w : World) :
    Calls Tryd.prog 124 #[.int .i64 (n : Int)] w (ErrRes 3 w) := by
  have hN := Lib.hid hn
  clear hn
  go_enter Tryd.func124, Tryd.ntmps124
  go_wp2_with (first | (go_at_call 126; refine (isSize_no _ hN.out _).mono ?_; rintro e w' ⟨rfl, rfl⟩))
  go_returns
  exact ⟨rfl, (by repeat (first | exact Below.refl _ _ | refine bDrew ?_ _ | refine Below.drew ?_ | refine Below.alloc ?_ (by simp) _ | refine Below.setCell ?_ (by simp) _))⟩

end Go.Proofs.YtckenemkfegopaaDoor
