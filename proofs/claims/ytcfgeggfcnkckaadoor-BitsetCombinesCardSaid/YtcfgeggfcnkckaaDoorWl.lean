/- Walks: combine, Union, Intersect, Minus, Complement where they refuse. -/
import Derived.Test.YtcfgeggfcnkckaaDoorWk
namespace Go.Proofs.YtcfgeggfcnkckaaDoor
open Go.RowKit
set_option linter.unusedVariables false

/-- why two sets are not combined -/
def Refuse (sa : Int) (wa : List Nat) (sb : Int) (wb : List Nat) (code : Int) : Prop :=
  (Kb.validB sa wa = false ∧ code = 1) ∨ (Kb.validB sa wa = true ∧ Kb.validB sb wb = false ∧ code = 1) ∨ (Kb.validB sa wa = true ∧ Kb.validB sb wb = true ∧ sa ≠ sb ∧ code = 2)

set_option maxRecDepth 100000 in
theorem combine_bad (V : Value) (sa : Int) (A : Option Addr) (ca : Nat) (wa : List Nat) (sb : Int) (B : Option Addr) (cb : Nat) (wb : List Nat) (code : Int) (w : World) (ha : Words w w.heap.size A wa) (hb : Words w w.heap.size B wb)
    (hla : wa.length ≤ 140737488351232) (hlb : wb.length ≤ 140737488351232) (hr : Refuse sa wa sb wb code) :
    Calls Tryd.prog 53 #[setV sa A wa.length ca, setV sb B wb.length cb, V] w (ErrRes code w) := by
  unfold setV
  go_enter Tryd.func53, Tryd.ntmps53
  go_wp2_with fail
  have i1 := CaInv.new_ w (.int .i64 sa) (.slice A wa.length ca) (.int .i64 sb) (.slice B wb.length cb) 24
  refine (bvalid_any sa A ca wa _ ((ha.below i1.bel).more i1.bel.size) hla).mono ?_
  rintro e w1 ⟨rfl, hb1⟩
  have j := i1.below hb1
  clear i1 hb1
  rcases hr with ⟨hva, rfl⟩ | ⟨hva, hvb, rfl⟩ | ⟨hva, hvb, hne, rfl⟩
  · rw [hva]
    have e0 := j.t3.c0
    have e1 := j.t3.c1
    have f30 := j.t3.fr 0
    have f31 := j.t3.fr 1
    go_wp2_with fail
    obtain ⟨r0, r1⟩ := two_set w1 (.int .i64 0) (.slice none 0 0) e0 e1
    refine bodyPost_ret (v := .tuple #[setV 0 none 0 0, .int .i64 1]) (by simp [results, Tryd.results53, go_sem, r0, r1, setV]) rfl ?_
    exact ⟨rfl, (j.bel.setCell (p := ⟨w.heap.size + 2, 0, none⟩) (by simp) _).setCell (p := ⟨w.heap.size + 2, 1, none⟩) (by simp) _⟩
  · rw [hva]
    have d10 := j.t2.c0
    have d11 := j.t2.c1
    go_wp2_with fail
    refine (bvalid_any sb B cb wb _ ((hb.below j.bel).more j.bel.size) hlb).mono ?_
    rintro e w2 ⟨rfl, hb2⟩
    clear d10 d11
    replace j := j.below hb2
    rw [hvb]
    have e0 := j.t3.c0
    have e1 := j.t3.c1
    have f30 := j.t3.fr 0
    have f31 := j.t3.fr 1
    go_wp2_with fail
    obtain ⟨r0, r1⟩ := two_set w2 (.int .i64 0) (.slice none 0 0) e0 e1
    refine bodyPost_ret (v := .tuple #[setV 0 none 0 0, .int .i64 1]) (by simp [results, Tryd.results53, go_sem, r0, r1, setV]) rfl ?_
    exact ⟨rfl, (j.bel.setCell (p := ⟨w.heap.size + 2, 0, none⟩) (by simp) _).setCell (p := ⟨w.heap.size + 2, 1, none⟩) (by simp) _⟩
  · rw [hva]
    have d10 := j.t2.c0
    have d11 := j.t2.c1
    go_wp2_with fail
    refine (bvalid_any sb B cb wb _ ((hb.below j.bel).more j.bel.size) hlb).mono ?_
    rintro e w2 ⟨rfl, hb2⟩
    clear d10 d11
    replace j := j.below hb2
    rw [hvb]
    have c10 := j.t1.c0
    have d10 := j.t2.c0
    have hne' : (sa != sb) = true := by simpa using hne
    have e0 := j.t3.c0
    have e1 := j.t3.c1
    have f30 := j.t3.fr 0
    have f31 := j.t3.fr 1
    go_wp2_with fail
    obtain ⟨r0, r1⟩ := two_set w2 (.int .i64 0) (.slice none 0 0) e0 e1
    refine bodyPost_ret (v := .tuple #[setV 0 none 0 0, .int .i64 2]) (by simp [results, Tryd.results53, go_sem, r0, r1, setV]) rfl ?_
    exact ⟨rfl, (j.bel.setCell (p := ⟨w.heap.size + 2, 0, none⟩) (by simp) _).setCell (p := ⟨w.heap.size + 2, 1, none⟩) (by simp) _⟩

set_option maxRecDepth 100000 in
theorem rcombine_bad (o : Int) (sa : Int) (A : Option Addr) (ca : Nat) (wa : List Nat) (sb : Int) (B : Option Addr) (cb : Nat) (wb : List Nat) (code : Int) (w : World) (ha : Words w w.heap.size A wa) (hb : Words w w.heap.size B wb)
    (hla : wa.length ≤ 140737488351232) (hlb : wb.length ≤ 140737488351232) (hr : Refuse sa wa sb wb code) :
    Calls Tryd.prog 30 #[.int .i64 o, setV sa A wa.length ca, setV sb B wb.length cb] w (ErrRes code w) := by
  unfold setV
  go_enter Tryd.func30, Tryd.ntmps30
  go_wp2_with fail
  have i1 := CaInv.new_ w (.int .i64 sa) (.slice A wa.length ca) (.int .i64 sb) (.slice B wb.length cb) 24
  refine (rvalid_any sa A ca wa _ ((ha.below i1.bel).more i1.bel.size) hla).mono ?_
  rintro e w1 ⟨rfl, hb1⟩
  have j := i1.below hb1
  clear i1 hb1
  rcases hr with ⟨hva, rfl⟩ | ⟨hva, hvb, rfl⟩ | ⟨hva, hvb, hne, rfl⟩
  · rw [hva]
    have e0 := j.t3.c0
    have e1 := j.t3.c1
    have f30 := j.t3.fr 0
    have f31 := j.t3.fr 1
    go_wp2_with fail
    obtain ⟨r0, r1⟩ := two_set w1 (.int .i64 0) (.slice none 0 0) e0 e1
    refine bodyPost_ret (v := .tuple #[setV 0 none 0 0, .int .i64 1]) (by simp [results, Tryd.results30, go_sem, r0, r1, setV]) rfl ?_
    exact ⟨rfl, (j.bel.setCell (p := ⟨w.heap.size + 2, 0, none⟩) (by simp) _).setCell (p := ⟨w.heap.size + 2, 1, none⟩) (by simp) _⟩
  · rw [hva]
    have d10 := j.t2.c0
    have d11 := j.t2.c1
    go_wp2_with fail
    refine (rvalid_any sb B cb wb _ ((hb.below j.bel).more j.bel.size) hlb).mono ?_
    rintro e w2 ⟨rfl, hb2⟩
    clear d10 d11
    replace j := j.below hb2
    rw [hvb]
    have e0 := j.t3.c0
    have e1 := j.t3.c1
    have f30 := j.t3.fr 0
    have f31 := j.t3.fr 1
    go_wp2_with fail
    obtain ⟨r0, r1⟩ := two_set w2 (.int .i64 0) (.slice none 0 0) e0 e1
    refine bodyPost_ret (v := .tuple #[setV 0 none 0 0, .int .i64 1]) (by simp [results, Tryd.results30, go_sem, r0, r1, setV]) rfl ?_
    exact ⟨rfl, (j.bel.setCell (p := ⟨w.heap.size + 2, 0, none⟩) (by simp) _).setCell (p := ⟨w.heap.size + 2, 1, none⟩) (by simp) _⟩
  · rw [hva]
    have d10 := j.t2.c0
    have d11 := j.t2.c1
    go_wp2_with fail
    refine (rvalid_any sb B cb wb _ ((hb.below j.bel).more j.bel.size) hlb).mono ?_
    rintro e w2 ⟨rfl, hb2⟩
    clear d10 d11
    replace j := j.below hb2
    rw [hvb]
    have c10 := j.t1.c0
    have d10 := j.t2.c0
    have hne' : (sa != sb) = true := by simpa using hne
    have e0 := j.t3.c0
    have e1 := j.t3.c1
    have f30 := j.t3.fr 0
    have f31 := j.t3.fr 1
    go_wp2_with fail
    obtain ⟨r0, r1⟩ := two_set w2 (.int .i64 0) (.slice none 0 0) e0 e1
    refine bodyPost_ret (v := .tuple #[setV 0 none 0 0, .int .i64 2]) (by simp [results, Tryd.results30, go_sem, r0, r1, setV]) rfl ?_
    exact ⟨rfl, (j.bel.setCell (p := ⟨w.heap.size + 2, 0, none⟩) (by simp) _).setCell (p := ⟨w.heap.size + 2, 1, none⟩) (by simp) _⟩

set_option maxRecDepth 100000 in
theorem union_bad (sa : Int) (A : Option Addr) (ca : Nat) (wa : List Nat) (sb : Int) (B : Option Addr) (cb : Nat) (wb : List Nat) (code : Int) (w : World) (ha : Words w w.heap.size A wa) (hb : Words w w.heap.size B wb)
    (hla : wa.length ≤ 140737488351232) (hlb : wb.length ≤ 140737488351232) (hr : Refuse sa wa sb wb code) :
    Calls Tryd.prog 26 #[setV sa A wa.length ca, setV sb B wb.length cb] w (ErrRes code w) := by
  unfold setV
  go_enter Tryd.func26, Tryd.ntmps26
  go_wp2_with fail
  have i1 := CaInv.new_ w (.int .i64 sa) (.slice A wa.length ca) (.int .i64 sb) (.slice B wb.length cb) 24
  refine (combine_bad _ sa A ca wa sb B cb wb code _ ((ha.below i1.bel).more i1.bel.size) ((hb.below i1.bel).more i1.bel.size) hla hlb hr).mono ?_
  rintro e w1 ⟨rfl, hb1⟩
  have j := i1.below hb1
  clear i1 hb1
  unfold setV
  have e0 := j.t3.c0
  have e1 := j.t3.c1
  have f30 := j.t3.fr 0
  have f31 := j.t3.fr 1
  go_wp2_with fail
  obtain ⟨r0, r1⟩ := two_set w1 (.int .i64 0) (.slice none 0 0) e0 e1
  refine bodyPost_ret (v := .tuple #[setV 0 none 0 0, .int .i64 code]) (by simp [results, Tryd.results26, go_sem, r0, r1, setV]) rfl ?_
  exact ⟨rfl, (j.bel.setCell (p := ⟨w.heap.size + 2, 0, none⟩) (by simp) _).setCell (p := ⟨w.heap.size + 2, 1, none⟩) (by simp) _⟩

set_option maxRecDepth 100000 in
theorem inter_bad (sa : Int) (A : Option Addr) (ca : Nat) (wa : List Nat) (sb : Int) (B : Option Addr) (cb : Nat) (wb : List Nat) (code : Int) (w : World) (ha : Words w w.heap.size A wa) (hb : Words w w.heap.size B wb)
    (hla : wa.length ≤ 140737488351232) (hlb : wb.length ≤ 140737488351232) (hr : Refuse sa wa sb wb code) :
    Calls Tryd.prog 27 #[setV sa A wa.length ca, setV sb B wb.length cb] w (ErrRes code w) := by
  unfold setV
  go_enter Tryd.func27, Tryd.ntmps27
  go_wp2_with fail
  have i1 := CaInv.new_ w (.int .i64 sa) (.slice A wa.length ca) (.int .i64 sb) (.slice B wb.length cb) 24
  refine (combine_bad _ sa A ca wa sb B cb wb code _ ((ha.below i1.bel).more i1.bel.size) ((hb.below i1.bel).more i1.bel.size) hla hlb hr).mono ?_
  rintro e w1 ⟨rfl, hb1⟩
  have j := i1.below hb1
  clear i1 hb1
  unfold setV
  have e0 := j.t3.c0
  have e1 := j.t3.c1
  have f30 := j.t3.fr 0
  have f31 := j.t3.fr 1
  go_wp2_with fail
  obtain ⟨r0, r1⟩ := two_set w1 (.int .i64 0) (.slice none 0 0) e0 e1
  refine bodyPost_ret (v := .tuple #[setV 0 none 0 0, .int .i64 code]) (by simp [results, Tryd.results27, go_sem, r0, r1, setV]) rfl ?_
  exact ⟨rfl, (j.bel.setCell (p := ⟨w.heap.size + 2, 0, none⟩) (by simp) _).setCell (p := ⟨w.heap.size + 2, 1, none⟩) (by simp) _⟩

set_option maxRecDepth 100000 in
theorem minus_bad (sa : Int) (A : Option Addr) (ca : Nat) (wa : List Nat) (sb : Int) (B : Option Addr) (cb : Nat) (wb : List Nat) (code : Int) (w : World) (ha : Words w w.heap.size A wa) (hb : Words w w.heap.size B wb)
    (hla : wa.length ≤ 140737488351232) (hlb : wb.length ≤ 140737488351232) (hr : Refuse sa wa sb wb code) :
    Calls Tryd.prog 28 #[setV sa A wa.length ca, setV sb B wb.length cb] w (ErrRes code w) := by
  unfold setV
  go_enter Tryd.func28, Tryd.ntmps28
  go_wp2_with fail
  have i1 := CaInv.new_ w (.int .i64 sa) (.slice A wa.length ca) (.int .i64 sb) (.slice B wb.length cb) 24
  refine (combine_bad _ sa A ca wa sb B cb wb code _ ((ha.below i1.bel).more i1.bel.size) ((hb.below i1.bel).more i1.bel.size) hla hlb hr).mono ?_
  rintro e w1 ⟨rfl, hb1⟩
  have j := i1.below hb1
  clear i1 hb1
  unfold setV
  have e0 := j.t3.c0
  have e1 := j.t3.c1
  have f30 := j.t3.fr 0
  have f31 := j.t3.fr 1
  go_wp2_with fail
  obtain ⟨r0, r1⟩ := two_set w1 (.int .i64 0) (.slice none 0 0) e0 e1
  refine bodyPost_ret (v := .tuple #[setV 0 none 0 0, .int .i64 code]) (by simp [results, Tryd.results28, go_sem, r0, r1, setV]) rfl ?_
  exact ⟨rfl, (j.bel.setCell (p := ⟨w.heap.size + 2, 0, none⟩) (by simp) _).setCell (p := ⟨w.heap.size + 2, 1, none⟩) (by simp) _⟩

set_option maxRecDepth 100000 in
theorem compl_bad (sa : Int) (A : Option Addr) (c : Nat) (ws : List Nat) (w : World) (h : Words w w.heap.size A ws) (hl : ws.length ≤ 140737488351232) (hv : Kb.validB sa ws = false) :
    Calls Tryd.prog 29 #[setV sa A ws.length c] w (ErrRes 1 w) := by
  have hV := Lib.hid hv
  clear hv
  unfold setV
  go_enter Tryd.func29, Tryd.ntmps29
  go_wp2_with fail
  have i1 := WiInv.new_ w (.int .i64 sa) (.slice A ws.length c) (.int .i64 0) (.slice none 0 0) 24 24
  refine (bvalid_any sa A c ws _ ((h.below i1.bel).more i1.bel.size) hl).mono ?_
  rintro e w1 ⟨rfl, hb1⟩
  have i2 := i1.below hb1
  rw [hV.out]
  have d10 := i2.t2.c0
  have d11 := i2.t2.c1
  have f10 := i2.t2.fr 0
  have f11 := i2.t2.fr 1
  go_wp2_with fail
  obtain ⟨r0, r1⟩ := two_set w1 (.int .i64 0) (.slice none 0 0) d10 d11
  refine bodyPost_ret (v := .tuple #[setV 0 none 0 0, .int .i64 1]) (by simp [results, Tryd.results29, go_sem, r0, r1, setV]) rfl ?_
  exact ⟨rfl, (i2.bel.setCell (p := ⟨w.heap.size + 1, 0, none⟩) (by simp) _).setCell (p := ⟨w.heap.size + 1, 1, none⟩) (by simp) _⟩

set_option maxRecDepth 100000 in
theorem rcompl_bad (sa : Int) (A : Option Addr) (c : Nat) (ws : List Nat) (w : World) (h : Words w w.heap.size A ws) (hl : ws.length ≤ 140737488351232) (hv : Kb.validB sa ws = false) :
    Calls Tryd.prog 31 #[setV sa A ws.length c] w (ErrRes 1 w) := by
  have hV := Lib.hid hv
  clear hv
  unfold setV
  go_enter Tryd.func31, Tryd.ntmps31
  go_wp2_with fail
  have i1 := WiInv.new_ w (.int .i64 sa) (.slice A ws.length c) (.int .i64 0) (.slice none 0 0) 24 24
  refine (rvalid_any sa A c ws _ ((h.below i1.bel).more i1.bel.size) hl).mono ?_
  rintro e w1 ⟨rfl, hb1⟩
  have i2 := i1.below hb1
  rw [hV.out]
  have d10 := i2.t2.c0
  have d11 := i2.t2.c1
  have f10 := i2.t2.fr 0
  have f11 := i2.t2.fr 1
  go_wp2_with fail
  obtain ⟨r0, r1⟩ := two_set w1 (.int .i64 0) (.slice none 0 0) d10 d11
  refine bodyPost_ret (v := .tuple #[setV 0 none 0 0, .int .i64 1]) (by simp [results, Tryd.results31, go_sem, r0, r1, setV]) rfl ?_
  exact ⟨rfl, (i2.bel.setCell (p := ⟨w.heap.size + 1, 0, none⟩) (by simp) _).setCell (p := ⟨w.heap.size + 1, 1, none⟩) (by simp) _⟩
end Go.Proofs.YtcfgeggfcnkckaaDoor
