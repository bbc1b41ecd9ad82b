/- Walks: Inputs of the reference. -/
import Derived.Test.YtkcnaedffcmodaaWa
namespace Go.Proofs.Ytkcnaedffcmodaa
open Go.RowKit Go.Maps
set_option linter.unusedVariables false

set_option maxRecDepth 100000 in
set_option maxHeartbeats 2000000 in
theorem rinputs_any (A : Option Addr) (c : Nat) (vs : List Kd.V) (s p r : Int) (w : World) (h : Vrs w w.heap.size A vs) (hl : vs.length ≤ 1000000) :
    Calls Try.prog 22 #[.slice A vs.length c, .int .i64 s, .int .i64 p, .int .i64 r] w (InpRes vs s p r w) := by
  have t0 := Three.new_ w (.slice none 0 0) (.slice none 0 0) (.slice none 0 0) 42
  have b0 := newB1 w (.cells #[.slice none 0 0, .slice none 0 0, .slice none 0 0] 42)
  go_enter Try.func22, Try.ntmps22
  go_wp2_with fail
  have h1 := h.at b0
  clear h
  have HL := Lib.hid hl
  revert t0 b0 h1
  generalize w.alloc (.cells #[.slice none 0 0, .slice none 0 0, .slice none 0 0] 42) = w1
  intro t0 b0 h1
  refine (runrank_any A c vs 1 s _ h1 hl).mono ?_
  rintro e w2 ⟨A2, c2, rfl, I2, n2⟩
  have t2 := t0.below n2 t0.lt
  have B2 := bTrans b0 n2
  have h2 := h1.at n2
  clear t0 b0 h1 n2
  by_cases e1 : Kd.uaC 1 vs s = 0
  case neg =>
    have g1 : (Kd.uaC 1 vs s != 0) = true := by simpa using e1
    have HR := Lib.hid (InpRes.bad1 (w := w) (p := p) (r := r) e1)
    have x0 := t2.c0
    have x1 := t2.c1
    have x2 := t2.c2
    have xf := t2.fr
    have y := t2.put (.slice none 0 0) (.slice none 0 0) (.slice none 0 0)
    have y0 := y.c0
    have y1 := y.c1
    have y2 := y.c2
    have BB := (B2.setCell (p := ⟨w.heap.size, 0, none⟩) (by simp) (.slice none 0 0)).setCell (p := ⟨w.heap.size, 1, none⟩) (by simp) (.slice none 0 0) |>.setCell (p := ⟨w.heap.size, 2, none⟩) (by simp) (.slice none 0 0)
    have E1 := Lib.hid e1
    clear e1 y
    go_wp2_with fail
    exact bodyPost_ret (v := .tuple #[.agg #[.slice none 0 0, .slice none 0 0, .slice none 0 0], .int .i64 (Kd.uaC 1 vs s)]) (by simp [results, Try.results22, go_sem, y0, y1, y2]) rfl (HR.out _ BB)
  have E1 := Lib.hid e1
  rw [e1]
  clear e1
  go_wp2_with fail
  refine (runrank_any A c vs 2 p _ h2 hl).mono ?_
  rintro e w3 ⟨A3, c3, rfl, I3, n3⟩
  have t3 := t2.below n3 t2.lt
  have B3 := bTrans B2 n3
  have h3 := h2.at n3
  have J3 := I2.at n3
  clear t2 B2 h2 n3 I2
  by_cases e2 : Kd.uaC 2 vs p = 0
  case neg =>
    have g1 : (Kd.uaC 2 vs p != 0) = true := by simpa using e2
    have HR := Lib.hid (InpRes.bad2 (w := w) (r := r) E1.out e2)
    have x0 := t3.c0
    have x1 := t3.c1
    have x2 := t3.c2
    have xf := t3.fr
    have y := t3.put (.slice none 0 0) (.slice none 0 0) (.slice none 0 0)
    have y0 := y.c0
    have y1 := y.c1
    have y2 := y.c2
    have BB := (B3.setCell (p := ⟨w.heap.size, 0, none⟩) (by simp) (.slice none 0 0)).setCell (p := ⟨w.heap.size, 1, none⟩) (by simp) (.slice none 0 0) |>.setCell (p := ⟨w.heap.size, 2, none⟩) (by simp) (.slice none 0 0)
    have E2 := Lib.hid e2
    clear e2 y
    go_wp2_with fail
    exact bodyPost_ret (v := .tuple #[.agg #[.slice none 0 0, .slice none 0 0, .slice none 0 0], .int .i64 (Kd.uaC 2 vs p)]) (by simp [results, Try.results22, go_sem, y0, y1, y2]) rfl (HR.out _ BB)
  have E2 := Lib.hid e2
  rw [e2]
  clear e2
  go_wp2_with fail
  refine (runrank_any A c vs 3 r _ h3 hl).mono ?_
  rintro e w4 ⟨A4, c4, rfl, I4, n4⟩
  have t4 := t3.below n4 t3.lt
  have B4 := bTrans B3 n4
  have K4 := J3.at n4
  have J4 := I3.at n4
  clear t3 B3 h3 n4 I3 J3
  have x0 := t4.c0
  have x1 := t4.c1
  have x2 := t4.c2
  have xf := t4.fr
  by_cases e3 : Kd.uaC 3 vs r = 0
  case neg =>
    have g1 : (Kd.uaC 3 vs r != 0) = true := by simpa using e3
    have HR := Lib.hid (InpRes.bad3 (w := w) E1.out E2.out e3)
    have y := t4.put (.slice none 0 0) (.slice none 0 0) (.slice none 0 0)
    have y0 := y.c0
    have y1 := y.c1
    have y2 := y.c2
    have BB := (B4.setCell (p := ⟨w.heap.size, 0, none⟩) (by simp) (.slice none 0 0)).setCell (p := ⟨w.heap.size, 1, none⟩) (by simp) (.slice none 0 0) |>.setCell (p := ⟨w.heap.size, 2, none⟩) (by simp) (.slice none 0 0)
    have E3 := Lib.hid e3
    clear e3 y
    go_wp2_with fail
    exact bodyPost_ret (v := .tuple #[.agg #[.slice none 0 0, .slice none 0 0, .slice none 0 0], .int .i64 (Kd.uaC 3 vs r)]) (by simp [results, Try.results22, go_sem, y0, y1, y2]) rfl (HR.out _ BB)
  have HR := Lib.hid (InpRes.ok (w := w) E1.out E2.out e3)
  rw [e3]
  clear e3
  have y := t4.put (.slice A2 (Kd.uaX 1 vs s).length c2) (.slice A3 (Kd.uaX 2 vs p).length c3) (.slice A4 (Kd.uaX 3 vs r).length c4)
  have y0 := y.c0
  have y1 := y.c1
  have y2 := y.c2
  have BB := (B4.setCell (p := ⟨w.heap.size, 0, none⟩) (by simp) (.slice A2 (Kd.uaX 1 vs s).length c2)).setCell (p := ⟨w.heap.size, 1, none⟩) (by simp) (.slice A3 (Kd.uaX 2 vs p).length c3) |>.setCell (p := ⟨w.heap.size, 2, none⟩) (by simp) (.slice A4 (Kd.uaX 3 vs r).length c4)
  have hlt := t4.lt
  have HT := Lib.hid t4
  clear y t4
  go_wp2_with fail
  refine bodyPost_ret (v := .tuple #[.agg #[.slice A2 (Kd.uaX 1 vs s).length c2, .slice A3 (Kd.uaX 2 vs p).length c3, .slice A4 (Kd.uaX 3 vs r).length c4], .int .i64 0]) (by simp [results, Try.results22, go_sem, y0, y1, y2]) rfl (HR.out _ _ _ _ _ _ _ BB ?_ ?_ ?_)
  · exact K4.put3 HT.out _ _ _
  · exact J4.put3 HT.out _ _ _
  · exact I4.put3 HT.out _ _ _
end Go.Proofs.Ytkcnaedffcmodaa
