/- Walks: combine, Union, Intersect, Minus, Complement where they refuse. -/
import Derived.Test.YtckenemkfegopaaDoorWk
namespace Go.Proofs.YtckenemkfegopaaDoor
open Go.RowKit
set_option linter.unusedVariables false

/-- why two sets are not combined -/
def Refuse (sa : Int) (wa : List Nat) (sb : Int) (wb : List Nat) (code : Int) : Prop :=
  (Kb.validB sa wa = false ∧ code = 1) ∨ (Kb.validB sa wa = true ∧ Kb.validB sb wb = false ∧ code = 1) ∨ (Kb.validB sa wa = true ∧ Kb.validB sb wb = true ∧ sa ≠ sb ∧ code = 2)

set_option maxRecDepth 100000 in
theorem compl_bad (sa : Int) (A : Option Addr) (c : Nat) (ws : List Nat) (w : World) (h : Words w w.heap.size A ws) (hl : ws.length ≤ 140737488351232) (hv : Kb.validB sa ws = false) :
    Calls Tryd.prog 89 #[setV sa A ws.length c] w (ErrRes 1 w) := by
  have hV := Lib.hid hv
  clear hv
  unfold setV
  go_enter Tryd.func89, Tryd.ntmps89
  go_wp2_with fail
  have i1 := WiInv.new_ w (.int .i64 sa) (.slice A ws.length c) (.int .i64 0) (.slice none 0 0) 46 46
  refine (bvalid_any sa A c ws _ ((h.below i1.bel).more i1.bel.size) hl).mono ?_
  rintro e w1 ⟨rfl, hb1⟩
  have i2 := i1.below hb1
  rw [hV.out]
  have d10 := i2.t2.c0
  have d11 := i2.t2.c1
  have f10 := i2.t2.fr 0
  have f11 := i2.t2.fr 1
  go_wp2_with fail
  obtain ⟨r0, r1⟩ := two_set w1 (.int .i64 0) (.slice none 0 0) d10 d11
  refine bodyPost_ret (v := .tuple #[setV 0 none 0 0, .int .i64 1]) (by simp [results, Tryd.results89, go_sem, r0, r1, setV]) rfl ?_
  exact ⟨rfl, (i2.bel.setCell (p := ⟨w.heap.size + 1, 0, none⟩) (by simp) _).setCell (p := ⟨w.heap.size + 1, 1, none⟩) (by simp) _⟩

end Go.Proofs.YtckenemkfegopaaDoor
