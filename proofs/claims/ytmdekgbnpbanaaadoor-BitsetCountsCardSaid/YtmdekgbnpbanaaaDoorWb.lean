/- Walks: slices.Equal at words, Equal and the reference's Equal. -/
import Derived.Test.YtmdekgbnpbanaaaDoorW5
import Derived.Test.YtmdekgbnpbanaaaDoorW3
namespace Go.Proofs.YtmdekgbnpbanaaaDoor
open Go.RowKit
set_option linter.unusedVariables false

/-- the same valid set? -/
def eqB (sa : Int) (wa : List Nat) (sb : Int) (wb : List Nat) : Bool := Kb.validB sa wa && Kb.validB sb wb && (sa == sb) && (wa == wb)

theorem list_eq_of {wa wb : List Nat} (hl : wa.length = wb.length) (h : ∀ j, j < wa.length → wa.getD j 0 = wb.getD j 0) : (wa == wb) = true := by
  rw [beq_iff_eq]
  apply List.ext_getElem hl
  intro i h1 h2
  have := h i h1
  rwa [List.getD_eq_getElem?_getD, List.getD_eq_getElem?_getD, List.getElem?_eq_getElem h1, List.getElem?_eq_getElem h2] at this
theorem list_ne_of {wa wb : List Nat} (j : Nat) (h : wa.getD j 0 ≠ wb.getD j 0) : (wa == wb) = false := by
  rw [beq_eq_false_iff_ne]; rintro rfl; exact h rfl
theorem list_ne_len {wa wb : List Nat} (h : wa.length ≠ wb.length) : (wa == wb) = false := by
  rw [beq_eq_false_iff_ne]; rintro rfl; exact h rfl

set_option maxRecDepth 100000 in
set_option maxHeartbeats 400000 in
theorem seq_any (A B : Option Addr) (ca cb : Nat) (wa wb : List Nat) (w : World) (ha : Words w w.heap.size A wa) (hb : Words w w.heap.size B wb) (hla : wa.length ≤ 140737488351232) :
    Calls Tryd.prog 57 #[.slice A wa.length ca, .slice B wb.length cb] w fun e w' => e = .returned (.bool (wa == wb)) ∧ ∃ q, w' = w.drewN q := by
  by_cases hl : wa.length = wb.length
  · have hl1 : ((wa.length : Int) != (wb.length : Int)) = false := by simp; omega
    have hL := Lib.hid hl
    clear hl
    go_enter Tryd.func57, Tryd.ntmps57
    go_wp2_with fail
    go_loopw [13] (fun kv wr => ∃ k q : Nat, k ≤ wa.length ∧ kv = .int .i64 k ∧ wr = w.drewN q ∧ Hid (∀ j, j < k → wa.getD j 0 = wb.getD j 0)) (fun kv _ => wa.length - (intOf kv).toNat)
    case atStart => exact ⟨0, 0, Nat.zero_le _, rfl, rfl, Lib.hid (fun j h => by omega)⟩
    case round =>
      obtain ⟨k, q, hk, rfl, rfl, hno⟩ := hrel
      by_cases hlt : k < wa.length
      · obtain ⟨b, off, x, rfl, hbb, hc, hx⟩ := ha.at_ hlt
        obtain ⟨b2, off2, y, rfl, hbb2, hc2, hy⟩ := hb.at_ (k := k) (by rw [← hL.out]; exact hlt)
        have hlt2 : (k : Int) < (wb.length : Int) := by have := hL.out; omega
        by_cases hxy : x = y
        · have hxy1 : ((x : Int) != (y : Int)) = false := by simp; omega
          have hXY := Lib.hid hxy
          clear hxy
          go_wp2_with fail
          go_quiet (fail)
          go_wp2_with fail
          go_roundw
          case rel => exact ⟨k + 1, _, by omega, by go_num, rfl, Lib.hid (fun j h => by
            by_cases e : j = k
            · rw [e, ← hx.out.1, ← hy.out.1]; exact hXY.out
            · exact hno.out j (by omega))⟩
          case measure => simp [intOf]; omega
        · have hxy1 : ((x : Int) != (y : Int)) = true := by simp; omega
          have hXY := Lib.hid hxy
          clear hxy
          go_wp2_with fail
          go_quiet (fail)
          go_wp2_with fail
          go_ret
          exact ⟨ret_bool (list_ne_of k (by rw [← hx.out.1, ← hy.out.1]; exact hXY.out)).symm, _, World.drewN_drewN _ _ _⟩
      · go_wp2_with fail
        go_ret
        exact ⟨ret_bool (list_eq_of hL.out (fun j h => hno.out j (by omega))).symm, _, rfl⟩
  · have hl1 : ((wa.length : Int) != (wb.length : Int)) = true := by simp; omega
    have hL := Lib.hid hl
    clear hl
    go_enter Tryd.func57, Tryd.ntmps57
    go_wp2_with fail
    go_ret
    exact ⟨ret_bool (list_ne_len hL.out).symm, 0, rfl⟩

/-- two boxed sets -/
structure TwoB (w wr : World) (sa : Int) (A : Option Addr) (na ca : Nat) (sb : Int) (B : Option Addr) (nb cb : Nat) : Prop where
  t1 : Two wr w.heap.size (.int .i64 sa) (.slice A na ca)
  t2 : Two wr (w.heap.size + 1) (.int .i64 sb) (.slice B nb cb)
  bel : Below w.heap.size w wr
theorem TwoB.below {w wr wx : World} {sa : Int} {A : Option Addr} {na ca : Nat} {sb : Int} {B : Option Addr} {nb cb : Nat} (h : TwoB w wr sa A na ca sb B nb cb) (hb : Below wr.heap.size wr wx) : TwoB w wx sa A na ca sb B nb cb :=
  ⟨h.t1.below hb h.t1.lt, h.t2.below hb h.t2.lt, h.bel.trans (hb.mono h.bel.size)⟩
theorem TwoB.new_ (w : World) (sa : Int) (A : Option Addr) (na ca : Nat) (sb : Int) (B : Option Addr) (nb cb : Nat) (T T' : TypeId) :
    TwoB w ((w.alloc (.cells #[.int .i64 sa, .slice A na ca] T)).alloc (.cells #[.int .i64 sb, .slice B nb cb] T')) sa A na ca sb B nb cb :=
  ⟨(Two.new_ _ _ _ _).alloc _, by simpa using Two.new_ (w.alloc (.cells #[.int .i64 sa, .slice A na ca] T)) (.int .i64 sb) (.slice B nb cb) T', (by repeat (first | exact Below.refl _ _ | refine bDrew ?_ _ | refine Below.drew ?_ | refine Below.alloc ?_ (by simp) _ | refine Below.setCell ?_ (by simp) _))⟩

set_option maxRecDepth 100000 in
set_option maxHeartbeats 400000 in
theorem equal_any (sa : Int) (A : Option Addr) (ca : Nat) (wa : List Nat) (sb : Int) (B : Option Addr) (cb : Nat) (wb : List Nat) (w : World) (ha : Words w w.heap.size A wa) (hb : Words w w.heap.size B wb) (hla : wa.length ≤ 140737488351232) (hlb : wb.length ≤ 140737488351232) :
    Calls Tryd.prog 32 #[setV sa A wa.length ca, setV sb B wb.length cb] w fun e w' => e = .returned (.bool (eqB sa wa sb wb)) ∧ Below w.heap.size w w' := by
  unfold setV
  cases hva : Kb.validB sa wa with
  | false =>
    have hR : Hid (eqB sa wa sb wb = false) := Lib.hid (by unfold eqB; rw [hva]; rfl)
    have hVA := Lib.hid hva
    clear hva
    go_enter Tryd.func32, Tryd.ntmps32
    go_wp2_with fail
    have i1 := TwoB.new_ w sa A wa.length ca sb B wb.length cb 24 24
    refine (bvalid_any sa A ca wa _ ((ha.below i1.bel).more i1.bel.size) hla).mono ?_
    rintro e w1 ⟨rfl, hb1⟩
    have i2 := i1.below hb1
    rw [hVA.out]
    go_wp2_with fail
    go_ret
    exact ⟨ret_bool hR.out.symm, i2.bel⟩
  | true =>
    have hVA := Lib.hid hva
    cases hvb : Kb.validB sb wb with
    | false =>
      have hR : Hid (eqB sa wa sb wb = false) := Lib.hid (by unfold eqB; rw [hva, hvb]; rfl)
      have hVB := Lib.hid hvb
      clear hva hvb
      go_enter Tryd.func32, Tryd.ntmps32
      go_wp2_with fail
      have i1 := TwoB.new_ w sa A wa.length ca sb B wb.length cb 24 24
      refine (bvalid_any sa A ca wa _ ((ha.below i1.bel).more i1.bel.size) hla).mono ?_
      rintro e w1 ⟨rfl, hb1⟩
      have i2 := i1.below hb1
      rw [hVA.out]
      clear i1 hb1
      have d10 := i2.t2.c0
      have d11 := i2.t2.c1
      go_wp2_with fail
      refine (bvalid_any sb B cb wb _ ((hb.below i2.bel).more i2.bel.size) hlb).mono ?_
      rintro e w2 ⟨rfl, hb2⟩
      have i3 := i2.below hb2
      rw [hVB.out]
      go_wp2_with fail
      go_ret
      exact ⟨ret_bool hR.out.symm, i3.bel⟩
    | true =>
      have hVB := Lib.hid hvb
      by_cases hs : sa = sb
      · have hR : Hid (eqB sa wa sb wb = (wa == wb)) := Lib.hid (by unfold eqB; rw [hva, hvb, hs]; simp)
        have hs1 : (sa == sb) = true := by simp [hs]
        have hS := Lib.hid hs
        clear hva hvb hs
        go_enter Tryd.func32, Tryd.ntmps32
        go_wp2_with fail
        have i1 := TwoB.new_ w sa A wa.length ca sb B wb.length cb 24 24
        refine (bvalid_any sa A ca wa _ ((ha.below i1.bel).more i1.bel.size) hla).mono ?_
        rintro e w1 ⟨rfl, hb1⟩
        have i2 := i1.below hb1
        rw [hVA.out]
        clear i1 hb1
        have d10 := i2.t2.c0
        have d11 := i2.t2.c1
        go_wp2_with fail
        refine (bvalid_any sb B cb wb _ ((hb.below i2.bel).more i2.bel.size) hlb).mono ?_
        rintro e w2 ⟨rfl, hb2⟩
        have i3 := i2.below hb2
        rw [hVB.out]
        clear i2 hb2 d10 d11
        have c10 := i3.t1.c0
        have c11 := i3.t1.c1
        have d10 := i3.t2.c0
        have d11 := i3.t2.c1
        go_wp2_with fail
        refine (seq_any A B ca cb wa wb _ ((ha.below i3.bel).more i3.bel.size) ((hb.below i3.bel).more i3.bel.size) hla).mono ?_
        rintro e w3 ⟨rfl, q, rfl⟩
        go_wp2_with fail
        go_ret
        exact ⟨ret_bool hR.out.symm, bDrew i3.bel q⟩
      · have hR : Hid (eqB sa wa sb wb = false) := Lib.hid (by unfold eqB; rw [hva, hvb]; simp [hs])
        have hs1 : (sa == sb) = false := by simp [hs]
        have hS := Lib.hid hs
        clear hva hvb hs
        go_enter Tryd.func32, Tryd.ntmps32
        go_wp2_with fail
        have i1 := TwoB.new_ w sa A wa.length ca sb B wb.length cb 24 24
        refine (bvalid_any sa A ca wa _ ((ha.below i1.bel).more i1.bel.size) hla).mono ?_
        rintro e w1 ⟨rfl, hb1⟩
        have i2 := i1.below hb1
        rw [hVA.out]
        clear i1 hb1
        have d10 := i2.t2.c0
        have d11 := i2.t2.c1
        go_wp2_with fail
        refine (bvalid_any sb B cb wb _ ((hb.below i2.bel).more i2.bel.size) hlb).mono ?_
        rintro e w2 ⟨rfl, hb2⟩
        have i3 := i2.below hb2
        rw [hVB.out]
        clear i2 hb2 d10 d11
        have c10 := i3.t1.c0
        have d10 := i3.t2.c0
        go_wp2_with fail
        go_ret
        exact ⟨ret_bool hR.out.symm, i3.bel⟩
end Go.Proofs.YtmdekgbnpbanaaaDoor
