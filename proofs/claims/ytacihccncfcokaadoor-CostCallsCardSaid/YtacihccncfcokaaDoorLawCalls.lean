/- Walk: the law CostCalls. -/
import Derived.Test.YtacihccncfcokaaDoorEp
import Derived.Test.YtacihccncfcokaaDoorLf
namespace Go.Proofs.YtacihccncfcokaaDoor
open Go.RowKit Go.Sort
set_option linter.unusedVariables false

set_option maxRecDepth 100000 in
set_option maxHeartbeats 4000000 in
theorem calls_walk (c : C) (A : Option Addr) (l : List E) (ca : Nat) (B : Option Addr) (zs : List Int) (cb : Nat) (w : World) (hc : c.Wf) (hl : E.L w w.heap.size A l) (hz : Zs w w.heap.size B zs ∧ zs.length ≤ 9223372036854775807) (hT : Tb w.heap.size w) :
    Calls Tryd.prog 5 #[c.val, .slice A l.length ca, .slice B zs.length cb] w fun r w' => r = .returned (.bool true) ∧ Below w.heap.size w w' := by
  have hlen := hl.len
  have hlen2 := hz.2
  have X := EnW.start w c 23
  go_enter Tryd.func5, Tryd.ntmps5
  go_upto_region 1 with (fail)
  revert X
  generalize w.alloc (.cells #[.int .i64 c.assign, .int .i64 c.branch, .int .i64 c.loop, .int .i64 c.call, .int .i64 c.output, .int .i64 c.release, .int .i64 c.load, .int .i64 c.index, .int .i64 c.arith, .int .i64 c.multiply, .int .i64 c.divide, .int .i64 c.compare, .int .i64 c.logic] 23) = w1
  intro X
  go_wp2_with fail
  refine (known_ok _ (hT.at X.bel)).mono ?_
  rintro r w2 ⟨rfl, b2⟩
  replace X := X.below b2
  clear b2
  by_cases h10 : 10 < l.length
  · have b4 := X.bel
    have hI : (10 : Int) < (l.length : Int) := by omega
    go_wp2_with fail
    go_ret
    exact ⟨rfl, b4⟩
  have hI1 : ¬ (10 : Int) < (l.length : Int) := by omega
  by_cases h20 : 20 < zs.length
  · have b4 := X.bel
    have hI : (20 : Int) < (zs.length : Int) := by omega
    go_wp2_with fail
    go_ret
    exact ⟨rfl, b4⟩
  have hI2 : ¬ (20 : Int) < (zs.length : Int) := by omega
  have hl10 : l.length ≤ 10 := by omega
  have hz20 : zs.length ≤ 20 := by omega
  go_wp2_with fail
  clear h10 h20 hI1 hI2
  go_loopw [25] (fun iv wr => ∃ i : Nat, i ≤ l.length ∧ iv = .int .i64 i ∧ Hid (∀ k, k < i → ∀ e', E.Is l k e' → fewB e' 300 = true) ∧ EnW w wr c) (fun iv _ => l.length - (intOf iv).toNat)
  case atStart => exact ⟨0, Nat.zero_le _, rfl, Lib.hid (fun k hk => absurd hk (Nat.not_lt_zero _)), X⟩
  case round =>
    clear X
    obtain ⟨i, hi, rfl, hg, Y⟩ := hrel
    by_cases hlt : i < l.length
    · obtain ⟨ab, off, e, rfl, hab, d0, d1, d2, d3, his, hin⟩ := (hl.below Y.bel).at_ hlt
      have hin2 := (hin.more Y.bel.size).at (al1 wr (.cells e.box 35))
      have Y2 := Y.below (al1 wr (.cells e.box 35))
      clear hin
      cases hf : fewB e 300 with
      | false =>
        have HF := Lib.hid hf
        clear hf hg
        go_wp2_with fail
        refine (few_any e _ hin2).mono ?_
        rintro r w3 ⟨rfl, b3⟩
        rw [HF.out]
        have b4 := (Y2.below b3).bel
        go_wp2_with fail
        go_ret
        exact ⟨rfl, b4⟩
      | true =>
        have HF := Lib.hid hf
        have HG : Hid (∀ k, k < i + 1 → ∀ e', E.Is l k e' → fewB e' 300 = true) := Lib.hid (E.all_next (p := fun e => fewB e 300) hg.out his hf)
        clear hf hg
        go_wp2_with fail
        refine (few_any e _ hin2).mono ?_
        rintro r w3 ⟨rfl, b3⟩
        rw [HF.out]
        have Y3 := Y2.below b3
        go_wp2_with fail
        go_roundw
        case rel => exact ⟨i + 1, by omega, by go_num, HG, Y3⟩
        case measure => simp [intOf]; omega
    · obtain rfl : i = l.length := by omega
      have HO : Hid (OkF w A l) := Lib.hid ⟨hl, fun e he => by
        obtain ⟨j, hj, rfl⟩ := List.mem_iff_getElem.1 he
        have h1 := hg.out j hj _ ⟨hj, rfl⟩
        have h2 := few_fit (hl.all _ he) h1
        exact ⟨h2.1.big, h2.1.nod⟩⟩
      clear hg hlt hl
      obtain ⟨hc0, hc1, hc2, hc3, hc4, hc5, hc6, hc7, hc8, hc9, hc10, hc11, hc12⟩ := c13 Y.bc
      go_wp2_with fail
      refine (center_any c l zs A B ca cb _ (HO.out.at Y.bel) (hz.1.at Y.bel) hl10 hz20 (hT.at Y.bel)).mono ?_
      rintro r w4 ⟨rfl, b4⟩
      replace Y := Y.below b4
      clear b4 hc0 hc1 hc2 hc3 hc4 hc5 hc6 hc7 hc8 hc9 hc10 hc11 hc12
      obtain ⟨hc0, hc1, hc2, hc3, hc4, hc5, hc6, hc7, hc8, hc9, hc10, hc11, hc12⟩ := c13 Y.bc
      go_wp2_with fail
      refine (renter_any c l zs A B ca cb _ (HO.out.at Y.bel) (hz.1.at Y.bel) hl10 hz20).mono ?_
      rintro r w5 ⟨rfl, b5⟩
      have b6 := bTrans Y.bel b5
      clear b5 Y hc0 hc1 hc2 hc3 hc4 hc5 hc6 hc7 hc8 hc9 hc10 hc11 hc12
      go_wp2_with fail
      go_ret
      exact ⟨rfl, b6⟩
end Go.Proofs.YtacihccncfcokaaDoor
