/- Walks: All; Of, All and the reference's All where they refuse. -/
import Derived.Test.YtcfgeggfcnkckaaDoorWm
namespace Go.Proofs.YtcfgeggfcnkckaaDoor
open Go.RowKit
set_option linter.unusedVariables false

set_option maxRecDepth 100000 in
theorem rall_bad (n : Int) (hn : ¬ (0 ≤ n ∧ n ≤ 4096)) (w : World) : Calls Tryd.prog 17 #[.int .i64 n] w (ErrRes 3 w) := by
  by_cases q1 : n < 0
  · clear hn
    go_enter Tryd.func17, Tryd.ntmps17
    go_wp2_with fail
    go_returns
    exact ⟨rfl, (by repeat (first | exact Below.refl _ _ | refine bDrew ?_ _ | refine Below.drew ?_ | refine Below.alloc ?_ (by simp) _ | refine Below.setCell ?_ (by simp) _))⟩
  · have q2 : (4096 : Int) < n := by omega
    clear hn
    go_enter Tryd.func17, Tryd.ntmps17
    go_wp2_with fail
    go_returns
    exact ⟨rfl, (by repeat (first | exact Below.refl _ _ | refine bDrew ?_ _ | refine Below.drew ?_ | refine Below.alloc ?_ (by simp) _ | refine Below.setCell ?_ (by simp) _))⟩

set_option maxRecDepth 100000 in
theorem all_bad (n : Int) (hn : ¬ (0 ≤ n ∧ n ≤ 4096)) (w : World) : Calls Tryd.prog 14 #[.int .i64 n] w (ErrRes 3 w) := by
  go_enter Tryd.func14, Tryd.ntmps14
  go_wp2_with fail
  have t1 := Two.new_ w (.int .i64 0) (.slice none 0 0) 24
  have hB : Below w.heap.size w (w.alloc (.cells #[.int .i64 0, .slice none 0 0] 24)) := (Below.refl _ _).alloc (Nat.le_refl _) _
  refine (new_bad n hn _).mono ?_
  rintro e w1 ⟨rfl, hb1⟩
  have t2 := t1.below hb1 t1.lt
  have hB2 := hB.trans (hb1.mono hB.size)
  have d10 := t2.c0
  have d11 := t2.c1
  have f10 := t2.fr 0
  have f11 := t2.fr 1
  have hz := t2.lt
  unfold setV
  go_wp2_with fail
  have tp := (t2.put (.int .i64 0) (.slice none 0 0)).alloc (.cells #[.int .i64 0, .slice none 0 0] 24)
  have r0 := tp.c0
  have r1 := tp.c1
  refine bodyPost_ret (v := .tuple #[setV 0 none 0 0, .int .i64 3]) (by simp [results, Tryd.results14, go_sem, r0, r1, setV]) rfl ?_
  exact ⟨rfl, ((hB2.setCell (p := ⟨w.heap.size, 0, none⟩) (by simp) _).setCell (p := ⟨w.heap.size, 1, none⟩) (by simp) _).alloc (by simp [World.setCell]; omega) _⟩

set_option maxRecDepth 100000 in
theorem of_badsize (n : Int) (hn : ¬ (0 ≤ n ∧ n ≤ 4096)) (V : Value) (w : World) : Calls Tryd.prog 15 #[.int .i64 n, V] w (ErrRes 3 w) := by
  go_enter Tryd.func15, Tryd.ntmps15
  go_wp2_with fail
  have t1 := Two.new_ w (.int .i64 0) (.slice none 0 0) 24
  have hB : Below w.heap.size w (w.alloc (.cells #[.int .i64 0, .slice none 0 0] 24)) := (Below.refl _ _).alloc (Nat.le_refl _) _
  refine (new_bad n hn _).mono ?_
  rintro e w1 ⟨rfl, hb1⟩
  have t2 := t1.below hb1 t1.lt
  have hB2 := hB.trans (hb1.mono hB.size)
  have d10 := t2.c0
  have d11 := t2.c1
  have f10 := t2.fr 0
  have f11 := t2.fr 1
  have hz := t2.lt
  unfold setV
  go_wp2_with fail
  have tp := (t2.put (.int .i64 0) (.slice none 0 0)).alloc (.cells #[.int .i64 0, .slice none 0 0] 24)
  have r0 := tp.c0
  have r1 := tp.c1
  refine bodyPost_ret (v := .tuple #[setV 0 none 0 0, .int .i64 3]) (by simp [results, Tryd.results15, go_sem, r0, r1, setV]) rfl ?_
  exact ⟨rfl, ((hB2.setCell (p := ⟨w.heap.size, 0, none⟩) (by simp) _).setCell (p := ⟨w.heap.size, 1, none⟩) (by simp) _).alloc (by simp [World.setCell]; omega) _⟩

set_option maxRecDepth 100000 in
theorem rof_badsize (n : Int) (hn : ¬ (0 ≤ n ∧ n ≤ 4096)) (V : Value) (w : World) : Calls Tryd.prog 16 #[.int .i64 n, V] w (ErrRes 3 w) := by
  by_cases q1 : n < 0
  · clear hn
    go_enter Tryd.func16, Tryd.ntmps16
    go_wp2_with fail
    go_returns
    exact ⟨rfl, (by repeat (first | exact Below.refl _ _ | refine bDrew ?_ _ | refine Below.drew ?_ | refine Below.alloc ?_ (by simp) _ | refine Below.setCell ?_ (by simp) _))⟩
  · have q2 : (4096 : Int) < n := by omega
    clear hn
    go_enter Tryd.func16, Tryd.ntmps16
    go_wp2_with fail
    go_returns
    exact ⟨rfl, (by repeat (first | exact Below.refl _ _ | refine bDrew ?_ _ | refine Below.drew ?_ | refine Below.alloc ?_ (by simp) _ | refine Below.setCell ?_ (by simp) _))⟩

theorem zeros_ok (n : Nat) : Kb.Ok n (List.replicate (Kb.nw n) 0) := by
  rw [← zeros_mk n (fun _ => false) (fun j => rfl)]
  exact Kb.Ok.mk_ _ _

set_option maxRecDepth 100000 in
theorem all_ok (n : Nat) (hn : n ≤ 4096) (w : World) : Calls Tryd.prog 14 #[.int .i64 (n : Int)] w (SetRes n (Kb.mkWords n (fun _ => true)) w) := by
  go_enter Tryd.func14, Tryd.ntmps14
  go_wp2_with fail
  have t1 := Two.new_ w (.int .i64 0) (.slice none 0 0) 24
  have hB : Below w.heap.size w (w.alloc (.cells #[.int .i64 0, .slice none 0 0] 24)) := (Below.refl _ _).alloc (Nat.le_refl _) _
  refine (new_ok n hn _).mono ?_
  rintro e w1 ⟨g, hg, rfl, hblk, hb1⟩
  have t2 := t1.below hb1 t1.lt
  have hB2 := hB.trans (hb1.mono hB.size)
  have hz := t2.lt
  clear hb1 hB t1
  have hW := hblk.words hblk.lt (zeros_ok n).lt
  clear hblk
  obtain ⟨ws, hws⟩ : ∃ ws, Hid (ws = List.replicate (Kb.nw n) 0) := ⟨_, Lib.hid rfl⟩
  have hok : Kb.Ok n ws := by rw [hws.out]; exact zeros_ok n
  have hlen : Kb.nw n = ws.length := hok.len.symm
  rw [← hws.out] at hW
  rw [hlen]
  unfold setV
  go_wp2_with fail
  have hb2 : Below w1.heap.size w1 (w1.alloc (.cells #[.int .i64 (n : Int), .slice (some ⟨g, 0, none⟩) ws.length ws.length] 24)) := (Below.refl _ _).alloc (Nat.le_refl _) _
  have t3 := t2.below hb2 t2.lt
  have hB3 := hB2.trans (hb2.mono hB2.size)
  refine (compl_ok n (some ⟨g, 0, none⟩) ws.length ws _ ((hW.below hb2).more hb2.size) hok hn).mono ?_
  rintro e w2 ⟨A3, c3, rfl, hW3, hb3⟩
  have em : Kb.mkWords n (fun j => !Kb.bitAt ws j) = Kb.mkWords n (fun _ => true) := Kb.mkWords_congr fun j hj => by
    rw [hws.out, ← zeros_mk n (fun _ => false) (fun j => rfl), Kb.bitAt_mkWords]; simp
  rw [em] at hW3 ⊢
  have t4 := t3.below hb3 t3.lt
  have hB4 := hB3.trans (hb3.mono hB3.size)
  clear hb2 hb3 t2 t3 hB2 hB3 hz
  have d10 := t4.c0
  have d11 := t4.c1
  have f10 := t4.fr 0
  have f11 := t4.fr 1
  unfold setV
  go_wp2_with fail
  obtain ⟨r0, r1⟩ := two_set w2 (.int .i64 (n : Int)) (.slice A3 (Kb.mkWords n (fun _ => true)).length c3) d10 d11
  refine bodyPost_ret (v := .tuple #[setV n A3 (Kb.mkWords n (fun _ => true)).length c3, .int .i64 0]) (by simp [results, Tryd.results14, go_sem, r0, r1, setV]) rfl ?_
  exact ⟨A3, c3, rfl, (hW3.put_two t4 _ _).more (by simp [World.setCell]), (hB4.setCell (p := ⟨w.heap.size, 0, none⟩) (by simp) _).setCell (p := ⟨w.heap.size, 1, none⟩) (by simp) _⟩
end Go.Proofs.YtcfgeggfcnkckaaDoor
