/- Walks: the reference's Same and Put; Has, copyWith, With, Without. -/
import Derived.Test.YtckenemkfegopaaDoorWb
import Derived.Test.YtckenemkfegopaaDoorWc
import Derived.Test.YtckenemkfegopaaDoorWf
namespace Go.Proofs.YtckenemkfegopaaDoor
open Go.RowKit
set_option linter.unusedVariables false

/-- equal as data? -/
def sameB (sa : Int) (wa : List Nat) (sb : Int) (wb : List Nat) : Bool := (sa == sb) && (wa == wb)
theorem sameB_s {sa sb : Int} {wa wb : List Nat} (h : sa ≠ sb) : sameB sa wa sb wb = false := by unfold sameB; simp [h]
theorem sameB_l {sa sb : Int} {wa wb : List Nat} (h : wa.length ≠ wb.length) : sameB sa wa sb wb = false := by unfold sameB; rw [list_ne_len h]; simp
theorem sameB_eq {sa sb : Int} {wa wb : List Nat} (h : sa = sb) : sameB sa wa sb wb = (wa == wb) := by unfold sameB; simp [h]

set_option maxRecDepth 100000 in
set_option maxHeartbeats 400000 in
theorem same_any (sa : Int) (A : Option Addr) (ca : Nat) (wa : List Nat) (sb : Int) (B : Option Addr) (cb : Nat) (wb : List Nat) (w : World) (ha : Words w w.heap.size A wa) (hb : Words w w.heap.size B wb) (hla : wa.length ≤ 140737488351232) :
    Calls Tryd.prog 53 #[setV sa A wa.length ca, setV sb B wb.length cb] w fun e w' => e = .returned (.bool (sameB sa wa sb wb)) ∧ Below w.heap.size w w' := by
  unfold setV
  by_cases hs : sa = sb
  · have hs1 : (sa != sb) = false := by simp [hs]
    by_cases hl : wa.length = wb.length
    · have hR : Hid (sameB sa wa sb wb = (wa == wb)) := Lib.hid (sameB_eq hs)
      have hl1 : ((wa.length : Int) != (wb.length : Int)) = false := by simp; omega
      have hlen : Hid (wa.length = wb.length) := Lib.hid hl
      have hS := Lib.hid hs
      clear hs hl
      go_enter Tryd.func53, Tryd.ntmps53
      go_wp2_with fail
      have i1 := TwoB.new_ w sa A wa.length ca sb B wb.length cb 46 46
      revert i1
      generalize ((w.alloc (.cells #[.int .i64 sa, .slice A wa.length ca] 46)).alloc (.cells #[.int .i64 sb, .slice B wb.length cb] 46)) = W0
      intro i1
      have hB0 := i1.bel
      have c11 := i1.t1.c1
      have d11 := i1.t2.c1
      go_loopw [5] (fun kv wr => ∃ k q : Nat, k ≤ wa.length ∧ kv = .int .i64 k ∧ wr = W0.drewN q ∧ Hid (∀ j, j < k → wa.getD j 0 = wb.getD j 0)) (fun kv _ => wa.length - (intOf kv).toNat)
      case atStart => exact ⟨0, 0, Nat.zero_le _, rfl, rfl, Lib.hid (fun j h => by omega)⟩
      case round =>
        obtain ⟨k, q, hk, rfl, rfl, hno⟩ := hrel
        by_cases hlt : k < wa.length
        · obtain ⟨b, off, x, rfl, hbb, hc, hx⟩ := (ha.below hB0).at_ hlt
          obtain ⟨b2, off2, y, rfl, hbb2, hc2, hy⟩ := (hb.below hB0).at_ (k := k) (by rw [← hlen.out]; exact hlt)
          have hlt2 : (k : Int) < (wb.length : Int) := by have := hlen.out; omega
          by_cases hxy : x = y
          · have hxy1 : ((x : Int) != (y : Int)) = false := by simp; omega
            have hXY := Lib.hid hxy
            clear hxy
            go_wp2_with fail
            go_quiet (fail)
            go_wp2_with fail
            go_roundw
            case rel => exact ⟨k + 1, _, by omega, by go_num, rfl, Lib.hid (fun j h => by
              by_cases e : j = k
              · rw [e, ← hx.out.1, ← hy.out.1]; exact hXY.out
              · exact hno.out j (by omega))⟩
            case measure => simp [intOf]; omega
          · have hxy1 : ((x : Int) != (y : Int)) = true := by simp; omega
            have hXY := Lib.hid hxy
            clear hxy
            go_wp2_with fail
            go_quiet (fail)
            go_wp2_with fail
            go_ret
            exact ⟨ret_bool (hR.out.trans (list_ne_of k (by rw [← hx.out.1, ← hy.out.1]; exact hXY.out))).symm, bDrew (bDrew hB0 _) _⟩
        · go_wp2_with fail
          go_ret
          exact ⟨ret_bool (hR.out.trans (list_eq_of hlen.out (fun j h => hno.out j (by omega)))).symm, bDrew hB0 _⟩
    · have hR : Hid (sameB sa wa sb wb = false) := Lib.hid (sameB_l hl)
      have hl1 : ((wa.length : Int) != (wb.length : Int)) = true := by simp; omega
      have hL := Lib.hid hl
      have hS := Lib.hid hs
      clear hs hl
      go_enter Tryd.func53, Tryd.ntmps53
      go_wp2_with fail
      go_ret
      exact ⟨ret_bool hR.out.symm, (by repeat (first | exact Below.refl _ _ | refine bDrew ?_ _ | refine Below.drew ?_ | refine Below.alloc ?_ (by simp) _ | refine Below.setCell ?_ (by simp) _))⟩
  · have hR : Hid (sameB sa wa sb wb = false) := Lib.hid (sameB_s hs)
    have hs1 : (sa != sb) = true := by simp [hs]
    have hS := Lib.hid hs
    clear hs
    go_enter Tryd.func53, Tryd.ntmps53
    go_wp2_with fail
    go_ret
    exact ⟨ret_bool hR.out.symm, (by repeat (first | exact Below.refl _ _ | refine bDrew ?_ _ | refine Below.drew ?_ | refine Below.alloc ?_ (by simp) _ | refine Below.setCell ?_ (by simp) _))⟩
end Go.Proofs.YtckenemkfegopaaDoor
