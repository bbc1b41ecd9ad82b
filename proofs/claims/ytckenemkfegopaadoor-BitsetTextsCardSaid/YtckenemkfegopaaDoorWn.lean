/- Walks: All; Of, All and the reference's All where they refuse. -/
import Derived.Test.YtckenemkfegopaaDoorWm
namespace Go.Proofs.YtckenemkfegopaaDoor
open Go.RowKit
set_option linter.unusedVariables false

set_option maxRecDepth 100000 in
theorem of_badsize (n : Int) (hn : ¬ (0 ≤ n ∧ n ≤ 4096)) (V : Value) (w : World) : Calls Tryd.prog 88 #[.int .i64 n, V] w (ErrRes 3 w) := by
  go_enter Tryd.func88, Tryd.ntmps88
  go_wp2_with fail
  have t1 := Two.new_ w (.int .i64 0) (.slice none 0 0) 46
  have hB : Below w.heap.size w (w.alloc (.cells #[.int .i64 0, .slice none 0 0] 46)) := (Below.refl _ _).alloc (Nat.le_refl _) _
  refine (new_bad n hn _).mono ?_
  rintro e w1 ⟨rfl, hb1⟩
  have t2 := t1.below hb1 t1.lt
  have hB2 := hB.trans (hb1.mono hB.size)
  have d10 := t2.c0
  have d11 := t2.c1
  have f10 := t2.fr 0
  have f11 := t2.fr 1
  have hz := t2.lt
  unfold setV
  go_wp2_with fail
  have tp := (t2.put (.int .i64 0) (.slice none 0 0)).alloc (.cells #[.int .i64 0, .slice none 0 0] 46)
  have r0 := tp.c0
  have r1 := tp.c1
  refine bodyPost_ret (v := .tuple #[setV 0 none 0 0, .int .i64 3]) (by simp [results, Tryd.results88, go_sem, r0, r1, setV]) rfl ?_
  exact ⟨rfl, ((hB2.setCell (p := ⟨w.heap.size, 0, none⟩) (by simp) _).setCell (p := ⟨w.heap.size, 1, none⟩) (by simp) _).alloc (by simp [World.setCell]; omega) _⟩

set_option maxRecDepth 100000 in
theorem rof_badsize (n : Int) (hn : ¬ (0 ≤ n ∧ n ≤ 4096)) (V : Value) (w : World) : Calls Tryd.prog 102 #[.int .i64 n, V] w (ErrRes 3 w) := by
  by_cases q1 : n < 0
  · clear hn
    go_enter Tryd.func102, Tryd.ntmps102
    go_wp2_with fail
    go_returns
    exact ⟨rfl, (by repeat (first | exact Below.refl _ _ | refine bDrew ?_ _ | refine Below.drew ?_ | refine Below.alloc ?_ (by simp) _ | refine Below.setCell ?_ (by simp) _))⟩
  · have q2 : (4096 : Int) < n := by omega
    clear hn
    go_enter Tryd.func102, Tryd.ntmps102
    go_wp2_with fail
    go_returns
    exact ⟨rfl, (by repeat (first | exact Below.refl _ _ | refine bDrew ?_ _ | refine Below.drew ?_ | refine Below.alloc ?_ (by simp) _ | refine Below.setCell ?_ (by simp) _))⟩

theorem zeros_ok (n : Nat) : Kb.Ok n (List.replicate (Kb.nw n) 0) := by
  rw [← zeros_mk n (fun _ => false) (fun j => rfl)]
  exact Kb.Ok.mk_ _ _

end Go.Proofs.YtckenemkfegopaaDoor
