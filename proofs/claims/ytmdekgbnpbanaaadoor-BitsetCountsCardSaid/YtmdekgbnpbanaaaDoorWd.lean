/- Walks: Subset and the reference's Subset. -/
import Derived.Test.YtmdekgbnpbanaaaDoorWc
namespace Go.Proofs.YtmdekgbnpbanaaaDoor
open Go.RowKit
set_option linter.unusedVariables false

set_option maxRecDepth 100000 in
set_option maxHeartbeats 400000 in
theorem subset_any (sa : Int) (A : Option Addr) (ca : Nat) (wa : List Nat) (sb : Int) (B : Option Addr) (cb : Nat) (wb : List Nat) (w : World) (ha : Words w w.heap.size A wa) (hb : Words w w.heap.size B wb) (hla : wa.length ≤ 140737488351232) (hlb : wb.length ≤ 140737488351232) :
    Calls Tryd.prog 34 #[setV sa A wa.length ca, setV sb B wb.length cb] w fun e w' => e = .returned (.bool (subB sa wa sb wb)) ∧ Below w.heap.size w w' := by
  unfold setV
  cases hva : Kb.validB sa wa with
  | false =>
    have hR : Hid (subB sa wa sb wb = false) := Lib.hid (subB_va hva)
    have hVA := Lib.hid hva
    clear hva
    go_enter Tryd.func34, Tryd.ntmps34
    go_wp2_with fail
    have i1 := TwoB.new_ w sa A wa.length ca sb B wb.length cb 24 24
    refine (bvalid_any sa A ca wa _ ((ha.below i1.bel).more i1.bel.size) hla).mono ?_
    rintro e w1 ⟨rfl, hb1⟩
    have i2 := i1.below hb1
    rw [hVA.out]
    go_wp2_with fail
    go_ret
    exact ⟨ret_bool hR.out.symm, i2.bel⟩
  | true =>
    have hVA := Lib.hid hva
    cases hvb : Kb.validB sb wb with
    | false =>
      have hR : Hid (subB sa wa sb wb = false) := Lib.hid (subB_vb hvb)
      have hVB := Lib.hid hvb
      clear hva hvb
      go_enter Tryd.func34, Tryd.ntmps34
      go_wp2_with fail
      have i1 := TwoB.new_ w sa A wa.length ca sb B wb.length cb 24 24
      refine (bvalid_any sa A ca wa _ ((ha.below i1.bel).more i1.bel.size) hla).mono ?_
      rintro e w1 ⟨rfl, hb1⟩
      have i2 := i1.below hb1
      rw [hVA.out]
      clear i1 hb1
      have d10 := i2.t2.c0
      have d11 := i2.t2.c1
      go_wp2_with fail
      refine (bvalid_any sb B cb wb _ ((hb.below i2.bel).more i2.bel.size) hlb).mono ?_
      rintro e w2 ⟨rfl, hb2⟩
      have i3 := i2.below hb2
      rw [hVB.out]
      go_wp2_with fail
      go_ret
      exact ⟨ret_bool hR.out.symm, i3.bel⟩
    | true =>
      have hVB := Lib.hid hvb
      by_cases hs : sa = sb
      · have hvA : Hid (Kb.validB sa wa = true ∧ Kb.validB sb wb = true) := Lib.hid ⟨hva, hvb⟩
        have hs1 : (sa != sb) = false := by simp [hs]
        have hlen : Hid (wa.length = wb.length) := Lib.hid (by rw [len_of_valid ha.lt hva, len_of_valid hb.lt hvb, hs])
        have hS := Lib.hid hs
        clear hva hvb hs
        go_enter Tryd.func34, Tryd.ntmps34
        go_wp2_with fail
        have i1 := TwoB.new_ w sa A wa.length ca sb B wb.length cb 24 24
        refine (bvalid_any sa A ca wa _ ((ha.below i1.bel).more i1.bel.size) hla).mono ?_
        rintro e w1 ⟨rfl, hb1⟩
        have i2 := i1.below hb1
        rw [hVA.out]
        clear i1 hb1
        have d10 := i2.t2.c0
        have d11 := i2.t2.c1
        go_wp2_with fail
        refine (bvalid_any sb B cb wb _ ((hb.below i2.bel).more i2.bel.size) hlb).mono ?_
        rintro e w2 ⟨rfl, hb2⟩
        have i3 := i2.below hb2
        rw [hVB.out]
        clear i2 hb2 d10 d11
        have c10 := i3.t1.c0
        have c11 := i3.t1.c1
        have d10 := i3.t2.c0
        have d11 := i3.t2.c1
        go_wp2_with fail
        go_loop [25] (fun kv => ∃ k : Nat, k ≤ wa.length ∧ kv = .int .i64 k ∧ Hid (∀ j, j < 64 * k → Kb.bitAt wa j = true → Kb.bitAt wb j = true)) (fun kv => wa.length - (intOf kv).toNat)
        case atStart => exact ⟨0, Nat.zero_le _, rfl, Lib.hid (fun j h => by omega)⟩
        case round =>
          obtain ⟨k, hk, rfl, hno⟩ := hrel
          by_cases hlt : k < wa.length
          · obtain ⟨b, off, x, rfl, hbb, hc, hx⟩ := (ha.below i3.bel).at_ hlt
            obtain ⟨b2, off2, y, rfl, hbb2, hc2, hy⟩ := (hb.below i3.bel).at_ (k := k) (by rw [← hlen.out]; exact hlt)
            have hlt2 : (k : Int) < (wb.length : Int) := by have := hlen.out; omega
            obtain ⟨z, hz⟩ : ∃ z : Nat, Hid (z = x &&& (18446744073709551615 - y)) := ⟨_, Lib.hid rfl⟩
            have hzE : bits BinOp.andNot IntKind.u64 (x : Int) (y : Int) = (z : Int) := by rw [hz.out]; exact andNot_bits hx.out.2 hy.out.2
            by_cases hz0 : z = 0
            · have hz1 : ((z : Int) != 0) = false := by simp; omega
              have hZ := Lib.hid hz0
              clear hz0
              go_wp2_with fail
              go_round
              case rel => exact ⟨k + 1, by omega, by go_num, Lib.hid (fun j h hj => by
                by_cases e : j < 64 * k
                · exact hno.out j e hj
                · have e1 : j / 64 = k := by omega
                  have h1 := andNot_zero hy.out.2 (by rw [← hz.out]; exact hZ.out) (j % 64) (Nat.mod_lt _ (by decide)) (by rw [hx.out.1, ← e1]; exact hj)
                  rw [hy.out.1, ← e1] at h1; exact h1)⟩
              case measure => simp [intOf]; omega
            · have hz1 : ((z : Int) != 0) = true := by simp; omega
              have hZ := Lib.hid hz0
              clear hz0
              have hR : Hid (subB sa wa sb wb = false) := Lib.hid (by
                obtain ⟨j, hj, h1, h2⟩ := andNot_some hx.out.2 hy.out.2 (by rw [← hz.out]; exact hZ.out)
                have e1 : (64 * k + j) / 64 = k := by omega
                have e2 : (64 * k + j) % 64 = j := by omega
                refine subB_no ha.lt (64 * k + j) ?_ ?_
                · unfold Kb.bitAt; rw [e1, e2, ← hx.out.1]; exact h1
                · unfold Kb.bitAt; rw [e1, e2, ← hy.out.1]; exact h2)
              go_wp2_with fail
              go_ret
              exact ⟨ret_bool hR.out.symm, i3.bel⟩
          · have hR : Hid (subB sa wa sb wb = true) := Lib.hid (subB_yes hvA.out.1 hvA.out.2 hS.out (fun j h hj => hno.out j (by
              have := len_of_valid ha.lt hvA.out.1; unfold Kb.nw at this; omega) hj))
            go_wp2_with fail
            go_ret
            exact ⟨ret_bool hR.out.symm, i3.bel⟩
      · have hR : Hid (subB sa wa sb wb = false) := Lib.hid (subB_s hs)
        have hs1 : (sa != sb) = true := by simp [hs]
        have hS := Lib.hid hs
        clear hva hvb hs
        go_enter Tryd.func34, Tryd.ntmps34
        go_wp2_with fail
        have i1 := TwoB.new_ w sa A wa.length ca sb B wb.length cb 24 24
        refine (bvalid_any sa A ca wa _ ((ha.below i1.bel).more i1.bel.size) hla).mono ?_
        rintro e w1 ⟨rfl, hb1⟩
        have i2 := i1.below hb1
        rw [hVA.out]
        clear i1 hb1
        have d10 := i2.t2.c0
        have d11 := i2.t2.c1
        go_wp2_with fail
        refine (bvalid_any sb B cb wb _ ((hb.below i2.bel).more i2.bel.size) hlb).mono ?_
        rintro e w2 ⟨rfl, hb2⟩
        have i3 := i2.below hb2
        rw [hVB.out]
        clear i2 hb2 d10 d11
        have c10 := i3.t1.c0
        have d10 := i3.t2.c0
        go_wp2_with fail
        go_ret
        exact ⟨ret_bool hR.out.symm, i3.bel⟩

set_option maxRecDepth 100000 in
set_option maxHeartbeats 400000 in
theorem rsubset_any (sa : Int) (A : Option Addr) (ca : Nat) (wa : List Nat) (sb : Int) (B : Option Addr) (cb : Nat) (wb : List Nat) (w : World) (ha : Words w w.heap.size A wa) (hb : Words w w.heap.size B wb) (hla : wa.length ≤ 140737488351232) (hlb : wb.length ≤ 140737488351232) :
    Calls Tryd.prog 35 #[setV sa A wa.length ca, setV sb B wb.length cb] w fun e w' => e = .returned (.bool (subB sa wa sb wb)) ∧ Below w.heap.size w w' := by
  unfold setV
  cases hva : Kb.validB sa wa with
  | false =>
    have hR : Hid (subB sa wa sb wb = false) := Lib.hid (subB_va hva)
    have hVA := Lib.hid hva
    clear hva
    go_enter Tryd.func35, Tryd.ntmps35
    go_wp2_with fail
    have i1 := TwoB.new_ w sa A wa.length ca sb B wb.length cb 24 24
    refine (rvalid_any sa A ca wa _ ((ha.below i1.bel).more i1.bel.size) hla).mono ?_
    rintro e w1 ⟨rfl, hb1⟩
    have i2 := i1.below hb1
    rw [hVA.out]
    go_wp2_with fail
    go_ret
    exact ⟨ret_bool hR.out.symm, i2.bel⟩
  | true =>
    have hVA := Lib.hid hva
    cases hvb : Kb.validB sb wb with
    | false =>
      have hR : Hid (subB sa wa sb wb = false) := Lib.hid (subB_vb hvb)
      have hVB := Lib.hid hvb
      clear hva hvb
      go_enter Tryd.func35, Tryd.ntmps35
      go_wp2_with fail
      have i1 := TwoB.new_ w sa A wa.length ca sb B wb.length cb 24 24
      refine (rvalid_any sa A ca wa _ ((ha.below i1.bel).more i1.bel.size) hla).mono ?_
      rintro e w1 ⟨rfl, hb1⟩
      have i2 := i1.below hb1
      rw [hVA.out]
      clear i1 hb1
      have d10 := i2.t2.c0
      have d11 := i2.t2.c1
      go_wp2_with fail
      refine (rvalid_any sb B cb wb _ ((hb.below i2.bel).more i2.bel.size) hlb).mono ?_
      rintro e w2 ⟨rfl, hb2⟩
      have i3 := i2.below hb2
      rw [hVB.out]
      go_wp2_with fail
      go_ret
      exact ⟨ret_bool hR.out.symm, i3.bel⟩
    | true =>
      have hVB := Lib.hid hvb
      by_cases hs : sa = sb
      · have hvA : Hid (Kb.validB sa wa = true ∧ Kb.validB sb wb = true) := Lib.hid ⟨hva, hvb⟩
        have hs1 : (sa != sb) = false := by simp [hs]
        have hlen : Hid (wa.length = wb.length) := Lib.hid (by rw [len_of_valid ha.lt hva, len_of_valid hb.lt hvb, hs])
        have hS := Lib.hid hs
        clear hva hvb hs
        go_enter Tryd.func35, Tryd.ntmps35
        go_wp2_with fail
        have i1 := TwoB.new_ w sa A wa.length ca sb B wb.length cb 24 24
        refine (rvalid_any sa A ca wa _ ((ha.below i1.bel).more i1.bel.size) hla).mono ?_
        rintro e w1 ⟨rfl, hb1⟩
        have i2 := i1.below hb1
        rw [hVA.out]
        clear i1 hb1
        have d10 := i2.t2.c0
        have d11 := i2.t2.c1
        go_wp2_with fail
        refine (rvalid_any sb B cb wb _ ((hb.below i2.bel).more i2.bel.size) hlb).mono ?_
        rintro e w2 ⟨rfl, hb2⟩
        have i3 := i2.below hb2
        rw [hVB.out]
        clear i2 hb2 d10 d11
        have c10 := i3.t1.c0
        have c11 := i3.t1.c1
        have d10 := i3.t2.c0
        have d11 := i3.t2.c1
        go_wp2_with fail
        obtain ⟨n, rfl⟩ := Int.eq_ofNat_of_zero_le ((Kb.validB_iff ha.lt).1 hvA.out.1).1
        have hn4 : n ≤ 4096 := by have := ((Kb.validB_iff ha.lt).1 hvA.out.1).2.1; omega
        have hla2 : wa.length ≤ 64 := by rw [len_of_valid ha.lt hvA.out.1]; unfold Kb.nw; omega
        have hlb2 : wb.length ≤ 64 := by rw [← hlen.out]; exact hla2
        go_loopw [5] (fun kv wr => ∃ k q : Nat, k ≤ n ∧ kv = .int .i64 k ∧ wr = w2.drewN q ∧ Hid (∀ j, j < k → Kb.bitAt wa j = true → Kb.bitAt wb j = true)) (fun kv _ => n - (intOf kv).toNat)
        case atStart => exact ⟨0, 0, Nat.zero_le _, rfl, rfl, Lib.hid (fun j h => by omega)⟩
        case round =>
          obtain ⟨k, q, hk, rfl, rfl, hno⟩ := hrel
          by_cases hlt : k < n
          · cases hba : Kb.bitAt wa k with
            | false =>
              have hBA := Lib.hid hba
              clear hba
              go_wp2_with fail
              refine (bit_any A ca k wa _ _ ((ha.below i3.bel).drewN q) (by omega) (by omega)).mono ?_
              rintro e w5 ⟨rfl, m, rfl⟩
              rw [hBA.out]
              go_wp2_with fail
              go_roundw
              case rel => exact ⟨k + 1, q + m, by omega, by go_num, rfl, Lib.hid (fun j h hj => by
                by_cases e : j = k
                · rw [e, hBA.out] at hj; cases hj
                · exact hno.out j (by omega) hj)⟩
              case measure => simp [intOf]; omega
            | true =>
              have hBA := Lib.hid hba
              clear hba
              cases hbb : Kb.bitAt wb k with
              | true =>
                have hBB := Lib.hid hbb
                clear hbb
                go_wp2_with fail
                refine (bit_any A ca k wa _ _ ((ha.below i3.bel).drewN q) (by omega) (by omega)).mono ?_
                rintro e w5 ⟨rfl, m, rfl⟩
                rw [hBA.out]
                go_wp2_with fail
                refine (bit_any B cb k wb _ _ ((hb.below i3.bel).drewN (q + m)) (by omega) (by omega)).mono ?_
                rintro e w6 ⟨rfl, m2, rfl⟩
                rw [hBB.out]
                go_wp2_with fail
                go_roundw
                case rel => exact ⟨k + 1, q + m + m2, by omega, by go_num, rfl, Lib.hid (fun j h hj => by
                  by_cases e : j = k
                  · rw [e]; exact hBB.out
                  · exact hno.out j (by omega) hj)⟩
                case measure => simp [intOf]; omega
              | false =>
                have hBB := Lib.hid hbb
                clear hbb
                have hR : Hid (subB n wa sb wb = false) := Lib.hid (subB_no ha.lt k hBA.out hBB.out)
                go_wp2_with fail
                refine (bit_any A ca k wa _ _ ((ha.below i3.bel).drewN q) (by omega) (by omega)).mono ?_
                rintro e w5 ⟨rfl, m, rfl⟩
                rw [hBA.out]
                go_wp2_with fail
                refine (bit_any B cb k wb _ _ ((hb.below i3.bel).drewN (q + m)) (by omega) (by omega)).mono ?_
                rintro e w6 ⟨rfl, m2, rfl⟩
                rw [hBB.out]
                go_wp2_with fail
                go_ret
                exact ⟨ret_bool hR.out.symm, bDrew i3.bel _⟩
          · have hR : Hid (subB n wa sb wb = true) := Lib.hid (subB_yes hvA.out.1 hvA.out.2 hS.out (fun j h hj => hno.out j (by omega) hj))
            go_wp2_with fail
            go_ret
            exact ⟨ret_bool hR.out.symm, bDrew i3.bel _⟩
      · have hR : Hid (subB sa wa sb wb = false) := Lib.hid (subB_s hs)
        have hs1 : (sa != sb) = true := by simp [hs]
        have hS := Lib.hid hs
        clear hva hvb hs
        go_enter Tryd.func35, Tryd.ntmps35
        go_wp2_with fail
        have i1 := TwoB.new_ w sa A wa.length ca sb B wb.length cb 24 24
        refine (rvalid_any sa A ca wa _ ((ha.below i1.bel).more i1.bel.size) hla).mono ?_
        rintro e w1 ⟨rfl, hb1⟩
        have i2 := i1.below hb1
        rw [hVA.out]
        clear i1 hb1
        have d10 := i2.t2.c0
        have d11 := i2.t2.c1
        go_wp2_with fail
        refine (rvalid_any sb B cb wb _ ((hb.below i2.bel).more i2.bel.size) hlb).mono ?_
        rintro e w2 ⟨rfl, hb2⟩
        have i3 := i2.below hb2
        rw [hVB.out]
        clear i2 hb2 d10 d11
        have c10 := i3.t1.c0
        have d10 := i3.t2.c0
        go_wp2_with fail
        go_ret
        exact ⟨ret_bool hR.out.symm, i3.bel⟩
end Go.Proofs.YtmdekgbnpbanaaaDoor
