/- Walks: IsOrdered and Check at the diagram of the chapter's example. -/
import Derived.Test.YtdbboeknknlolaaW9
import Derived.Deep.RegionHeld3
namespace Go.Proofs.Ytdbboeknknlolaa
open Go.RowKit Go.Sort
set_option linter.unusedVariables false

abbrev fnO (s t : Nat) : Value := .func (.func 99) #[] #[.pointer (some ⟨t + 3, 0, none⟩), .pointer (some ⟨s + 1, 0, none⟩), .pointer (some ⟨t + 4, 0, none⟩), .pointer (some ⟨t + 5, 0, none⟩), .pointer (some ⟨s, 0, none⟩)]
/-- the walk's memory: p, q: the leaves met; r: their number; f: nodes finished -/
structure Sd (w W : World) (s t lb nb : Nat) (p q : Bool) (r f : Int) : Prop where
  a : Blk W s (dgC lb nb)
  nd : Blk W nb ndC
  rc : One W (s + 1) (.int .i64 r)
  mt : Blk W (t + 2) #[.bool p, .bool q]
  mb : One W (t + 3) (.slice (some ⟨t + 2, 0, none⟩) 2 2)
  fn : One W (t + 4) (.int .i64 f)
  wk : One W (t + 5) (fnO s t)
  bel : Below w.heap.size w W
  hs : w.heap.size ≤ s
  st : s ≤ t
  hn : nb < w.heap.size
theorem Sd.drew {w W : World} {s t lb nb : Nat} {p q : Bool} {r f : Int} (h : Sd w W s t lb nb p q r f) : Sd w W.drew s t lb nb p q r f := ⟨h.a.drew, h.nd.drew, h.rc.drew, h.mt.drew, h.mb.drew, h.fn.drew, h.wk.drew, h.bel.drew, h.hs, h.st, h.hn⟩
theorem Sd.met0 {w W : World} {s t lb nb : Nat} {p q : Bool} {r f : Int} (h : Sd w W s t lb nb p q r f) : Sd w (W.setCell ⟨t + 2, 0, none⟩ (.bool true)) s t lb nb true q r f :=
  ⟨h.a.far (by have := h.st; show s ≠ t + 2; omega) _, h.nd.far (by have := h.hs; have := h.hn; have := h.st; show nb ≠ t + 2; omega) _, h.rc.far (by have := h.st; show s + 1 ≠ t + 2; omega) _, h.mt.put 0 (.bool true), h.mb.far (by have := h.st; show t + 3 ≠ t + 2; omega) _, h.fn.far (by have := h.st; show t + 4 ≠ t + 2; omega) _, h.wk.far (by have := h.st; show t + 5 ≠ t + 2; omega) _, h.bel.setCell (by have := h.hs; have := h.st; show w.heap.size ≤ t + 2; omega) _, h.hs, h.st, h.hn⟩
theorem Sd.met1 {w W : World} {s t lb nb : Nat} {p q : Bool} {r f : Int} (h : Sd w W s t lb nb p q r f) : Sd w (W.setCell ⟨t + 2, 1, none⟩ (.bool true)) s t lb nb p true r f :=
  ⟨h.a.far (by have := h.st; show s ≠ t + 2; omega) _, h.nd.far (by have := h.hs; have := h.hn; have := h.st; show nb ≠ t + 2; omega) _, h.rc.far (by have := h.st; show s + 1 ≠ t + 2; omega) _, h.mt.put 1 (.bool true), h.mb.far (by have := h.st; show t + 3 ≠ t + 2; omega) _, h.fn.far (by have := h.st; show t + 4 ≠ t + 2; omega) _, h.wk.far (by have := h.st; show t + 5 ≠ t + 2; omega) _, h.bel.setCell (by have := h.hs; have := h.st; show w.heap.size ≤ t + 2; omega) _, h.hs, h.st, h.hn⟩
theorem Sd.rea {w W : World} {s t lb nb : Nat} {p q : Bool} {r f : Int} (h : Sd w W s t lb nb p q r f) (r' : Int) : Sd w (W.setCell ⟨s + 1, 0, none⟩ (.int .i64 r')) s t lb nb p q r' f :=
  ⟨h.a.far (by show s ≠ s + 1; omega) _, h.nd.far (by have := h.hs; have := h.hn; have := h.st; show nb ≠ s + 1; omega) _, h.rc.put _, h.mt.far (by have := h.st; show t + 2 ≠ s + 1; omega) _, h.mb.far (by have := h.st; show t + 3 ≠ s + 1; omega) _, h.fn.far (by have := h.st; show t + 4 ≠ s + 1; omega) _, h.wk.far (by have := h.st; show t + 5 ≠ s + 1; omega) _, h.bel.setCell (by have := h.hs; have := h.st; show w.heap.size ≤ s + 1; omega) _, h.hs, h.st, h.hn⟩
theorem Sd.fin {w W : World} {s t lb nb : Nat} {p q : Bool} {r f : Int} (h : Sd w W s t lb nb p q r f) (f' : Int) : Sd w (W.setCell ⟨t + 4, 0, none⟩ (.int .i64 f')) s t lb nb p q r f' :=
  ⟨h.a.far (by have := h.st; show s ≠ t + 4; omega) _, h.nd.far (by have := h.hs; have := h.hn; have := h.st; show nb ≠ t + 4; omega) _, h.rc.far (by have := h.st; show s + 1 ≠ t + 4; omega) _, h.mt.far (by have := h.st; show t + 2 ≠ t + 4; omega) _, h.mb.far (by have := h.st; show t + 3 ≠ t + 4; omega) _, h.fn.put _, h.wk.far (by have := h.st; show t + 5 ≠ t + 4; omega) _, h.bel.setCell (by have := h.hs; have := h.st; show w.heap.size ≤ t + 4; omega) _, h.hs, h.st, h.hn⟩
abbrev woA (s t : Nat) (at_ : Int) : Array Value := #[.int .i64 at_, .pointer (some ⟨t + 3, 0, none⟩), .pointer (some ⟨s + 1, 0, none⟩), .pointer (some ⟨t + 4, 0, none⟩), .pointer (some ⟨t + 5, 0, none⟩), .pointer (some ⟨s, 0, none⟩)]
set_option maxHeartbeats 1000000 in
theorem leaf0 {w W : World} {s t lb nb : Nat} (X : Sd w W s t lb nb false false 0 0) : Calls Try.prog 99 (woA s t 0) W fun e W' => e = .returned (.bool true) ∧ Sd w W' s t lb nb true false 1 0 := by
  have c0 := X.mb.c
  have c1 := X.mt.c 0 rfl
  have g1 := X.mt.fr 0
  have c2 := X.rc.c
  have g2 := X.rc.fr 0
  have X2 := X.met0.rea 1
  have c3 := X.met0.rc.c
  have c4 := X.met0.mb.c
  clear X
  go_enter Try.func99, Try.ntmps99
  go_wp2_with fail
  go_ret
  exact ⟨rfl, X2⟩
set_option maxHeartbeats 1000000 in
theorem leaf0b {w W : World} {s t lb nb : Nat} (X : Sd w W s t lb nb true false 1 0) : Calls Try.prog 99 (woA s t 0) W fun e W' => e = .returned (.bool true) ∧ Sd w W' s t lb nb true false 1 0 := by
  have c0 := X.mb.c
  have c1 := X.mt.c 0 rfl
  go_enter Try.func99, Try.ntmps99
  go_wp2_with fail
  go_ret
  exact ⟨rfl, X⟩
set_option maxHeartbeats 1000000 in
theorem leaf1 {w W : World} {s t lb nb : Nat} (X : Sd w W s t lb nb true false 1 0) : Calls Try.prog 99 (woA s t 1) W fun e W' => e = .returned (.bool true) ∧ Sd w W' s t lb nb true true 2 0 := by
  have c0 := X.mb.c
  have c1 := X.mt.c 1 rfl
  have g1 := X.mt.fr 1
  have c2 := X.rc.c
  have g2 := X.rc.fr 0
  have X2 := X.met1.rea 2
  have c3 := X.met1.rc.c
  clear X
  go_enter Try.func99, Try.ntmps99
  go_wp2_with fail
  go_ret
  exact ⟨rfl, X2⟩
set_option maxRecDepth 100000 in
set_option maxHeartbeats 1000000 in
theorem node2 {w W : World} {s t lb nb : Nat} (X : Sd w W s t lb nb true false 1 0) : Calls Try.prog 99 (woA s t 2) W fun e W' => e = .returned (.bool true) ∧ Sd w W' s t lb nb true true 2 1 := by
  have c0 := X.mb.c
  have c1 := X.fn.c
  have C1 := Lib.hid (fun W' (i : Sd w W' s t lb nb true false 1 0) => leaf0b i)
  have C2 := Lib.hid (fun W' (i : Sd w W' s t lb nb true false 1 0) => leaf1 i)
  go_enter Try.func99, Try.ntmps99
  go_upto_region 9 with (fail)
  clear c0 c1
  replace X := X.drew
  go_region_held3 (fun w' => w'.cell? ⟨t + 5, 0, none⟩ = some (fnO s t) ∧ w'.cell? ⟨s, 2, none⟩ = some (.slice (some ⟨nb, 0, none⟩) 2 2) ∧ w'.cell? ⟨nb, 1, none⟩ = some (.int .i64 0) ∧ w'.cell? ⟨nb, 2, none⟩ = some (.int .i64 1) ∧ w'.cell? ⟨t + 4, 0, none⟩ = some (.int .i64 0))
    (exact ⟨X.wk.c, X.a.c 2 rfl, X.nd.c 1 rfl, X.nd.c 2 rfl, X.fn.c⟩)
    (first
      | (go_at_call 99; (with_reducible refine (C2.out _ X).mono ?_); rintro r w3 ⟨rfl, X2⟩; replace X := X2)
      | (go_at_call 99; (with_reducible refine (C1.out _ X).mono ?_); rintro r w2 ⟨rfl, X1⟩; replace X := X1))
  have c0 := X.fn.c
  have g0 := X.fn.fr 0
  have X3 := X.fin 1
  clear X
  go_wp2_with fail
  go_ret
  exact ⟨rfl, X3⟩
set_option maxRecDepth 100000 in
set_option maxHeartbeats 1000000 in
theorem node3 {w W : World} {s t lb nb : Nat} (X : Sd w W s t lb nb false false 0 0) : Calls Try.prog 99 (woA s t 3) W fun e W' => e = .returned (.bool true) ∧ Sd w W' s t lb nb true true 2 2 := by
  have c0 := X.mb.c
  have c1 := X.fn.c
  have C1 := Lib.hid (fun W' (i : Sd w W' s t lb nb false false 0 0) => leaf0 i)
  have C2 := Lib.hid (fun W' (i : Sd w W' s t lb nb true false 1 0) => node2 i)
  go_enter Try.func99, Try.ntmps99
  go_upto_region 9 with (fail)
  clear c0 c1
  have Xd := X.drew
  have d0 := Xd.wk.c
  have d1 := Xd.a.c 2 rfl
  have d2 := Xd.nd.c 4 rfl
  have d3 := Xd.nd.c 5 rfl
  clear X
  go_region_law (first
    | (go_simp; go_at_call 99; (with_reducible refine (C2.out _ X1).mono ?_); rintro r w3 ⟨rfl, X2⟩; have e0 := X2.fn.c)
    | (go_simp; go_at_call 99; (with_reducible refine (C1.out _ Xd).mono ?_); rintro r w2 ⟨rfl, X1⟩; have h0 := X1.wk.c; have h1 := X1.a.c 2 rfl; have h2 := X1.nd.c 4 rfl; have h3 := X1.nd.c 5 rfl))
  all_goals
    have c0 := X2.fn.c
    have g0 := X2.fn.fr 0
    have X3 := X2.fin 2
    clear X2 X1 Xd d0 d1 d2 d3 h0 h1 h2 h3 e0 C1 C2
    go_wp2_with fail
    go_ret
    exact ⟨rfl, X3⟩
end Go.Proofs.Ytdbboeknknlolaa
