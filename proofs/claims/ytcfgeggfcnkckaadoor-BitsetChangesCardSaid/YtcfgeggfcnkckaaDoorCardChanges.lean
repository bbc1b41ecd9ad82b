/- BitsetChanges: for every value of api.Set and every int the law returns true: Has, With and Without answer as the reference does. Condition: the three listed library tables hold what their initialisers lay (tied to the program text by the given tie). -/
import Derived.Test.YtcfgeggfcnkckaaDoorLawRow
import Derived.Test.YtcfgeggfcnkckaaDoorLawChanges
namespace Go.Proofs.YtcfgeggfcnkckaaDoor.bitsetChanges
open Go.ChangeShapes Go.WideShapes Go.ChangeAt Go.RowKit
set_option linter.unusedVariables false

theorem wAt {w W : World} {A : Option Addr} {ws : List Nat} (h : Words w w.heap.size A ws) (hb : Below w.heap.size w W) : Words W W.heap.size A ws := (h.below hb).more hb.size

set_option maxRecDepth 100000 in
theorem changes_walk (sa : Int) (A : Option Addr) (ca : Nat) (wa : List Nat) (i : Int) (w : World) (ha : Words w w.heap.size A wa) (ht : Tabs w) :
    Calls Tryd.prog 4 #[setV sa A wa.length ca, .int .i64 i] w fun e w' => e = .returned (.bool true) ∧ Below w.heap.size w w' := by
  by_cases h1 : 64 < wa.length
  · have h1' : (64 : Int) < (wa.length : Int) := by omega
    unfold setV
    go_enter Tryd.func4, Tryd.ntmps4
    go_wp2_with fail
    have i1 : ChInv w (w.alloc (.cells #[.int .i64 sa, .slice A wa.length ca] 24)) (.int .i64 sa) (.slice A wa.length ca) := ⟨Two.new_ _ _ _ _, (Below.refl _ _).alloc (Nat.le_refl _) _⟩
    refine (known_ok _ (ht.below i1.bel)).mono ?_
    rintro e w1 ⟨rfl, hb1⟩
    have i2 := i1.below hb1
    have c11 := i2.t1.c1
    go_wp2_with fail
    go_ret
    exact ⟨rfl, i2.bel⟩
  · have hl : wa.length ≤ 64 := by omega
    have hl' : wa.length ≤ 140737488351232 := by omega
    cases hv : Kb.validB sa wa with
    | false =>
      have hV := Lib.hid hv
      refine changes_core sa A ca wa i 0 0 1 1 [] [] w ha hl (by simp) (by simp) ht (Lib.hid fun W hb => ?_) (Lib.hid fun W hb => ?_) (Lib.hid fun W hb => ?_) (Lib.hid fun W hb => ?_)
      · exact (with_bad sa A ca wa i 1 W (by decide) fun W' hb' => copyWith_bad1 sa A ca wa i W' (wAt (wAt ha hb) hb') hl' hV).mono fun _ _ h => OutRes.of_err h
      · exact (without_bad sa A ca wa i 1 W (by decide) fun W' hb' => copyWith_bad1 sa A ca wa i W' (wAt (wAt ha hb) hb') hl' hV).mono fun _ _ h => OutRes.of_err h
      · exact (put_bad sa A ca wa i true W (wAt ha hb) hl' hV).mono fun _ _ h => OutRes.of_err h
      · exact (put_bad sa A ca wa i false W (wAt ha hb) hl' hV).mono fun _ _ h => OutRes.of_err h
    | true =>
      obtain ⟨n, rfl⟩ := Int.eq_ofNat_of_zero_le ((Kb.validB_iff ha.lt).1 hv).1
      have hok := ((Kb.validB_iff ha.lt).1 hv).2.2
      have hn : n ≤ 4096 := by have := ((Kb.validB_iff ha.lt).1 hv).2.1; omega
      rw [Int.toNat_natCast] at hok
      have hV := Lib.hid hv
      by_cases hi : 0 ≤ i ∧ i < (n : Int)
      · obtain ⟨j, rfl⟩ := Int.eq_ofNat_of_zero_le hi.1
        have hj : j < n := by omega
        have e1 : Kb.mkWords n (fun k => if k = j then true else Kb.bitAt wa k) = Kb.mkWords n (fun k => k == j || Kb.bitAt wa k) := Kb.mkWords_congr fun k _ => by
          by_cases e : k = j <;> simp [e]
        have e2 : Kb.mkWords n (fun k => if k = j then false else Kb.bitAt wa k) = Kb.mkWords n (fun k => k != j && Kb.bitAt wa k) := Kb.mkWords_congr fun k _ => by
          by_cases e : k = j <;> simp [e]
        have hnw : Kb.nw n ≤ 64 := by unfold Kb.nw; omega
        refine changes_core n A ca wa j n n 0 0 (Kb.mkWords n (fun k => k == j || Kb.bitAt wa k)) (Kb.mkWords n (fun k => k != j && Kb.bitAt wa k)) w ha hl (by rw [Kb.mkWords_length]; exact hnw) (by rw [Kb.mkWords_length]; exact hnw) ht (Lib.hid fun W hb => ?_) (Lib.hid fun W hb => ?_) (Lib.hid fun W hb => ?_) (Lib.hid fun W hb => ?_)
        · exact (with_ok n A ca wa j W (wAt ha hb) hok hn hj).mono fun _ _ h => OutRes.of_set h
        · exact (without_ok n A ca wa j W (wAt ha hb) hok hn hj).mono fun _ _ h => OutRes.of_set h
        · exact (put_ok n A ca wa j true W (wAt ha hb) hok hn hj).mono fun _ _ h => by rw [e1] at h; exact OutRes.of_set h
        · exact (put_ok n A ca wa j false W (wAt ha hb) hok hn hj).mono fun _ _ h => by rw [e2] at h; exact OutRes.of_set h
      · refine changes_core n A ca wa i 0 0 3 3 [] [] w ha hl (by simp) (by simp) ht (Lib.hid fun W hb => ?_) (Lib.hid fun W hb => ?_) (Lib.hid fun W hb => ?_) (Lib.hid fun W hb => ?_)
        · exact (with_bad n A ca wa i 3 W (by decide) fun W' hb' => copyWith_bad3 n A ca wa i W' (wAt (wAt ha hb) hb') hl' hV hi).mono fun _ _ h => OutRes.of_err h
        · exact (without_bad n A ca wa i 3 W (by decide) fun W' hb' => copyWith_bad3 n A ca wa i W' (wAt (wAt ha hb) hb') hl' hV hi).mono fun _ _ h => OutRes.of_err h
        · exact (put_out n A ca wa i true W (wAt ha hb) hl' hV hi).mono fun _ _ h => OutRes.of_err h
        · exact (put_out n A ca wa i false W (wAt ha hb) hl' hV hi).mono fun _ _ h => OutRes.of_err h

set_option maxRecDepth 100000 in
theorem contract (H : Type) (enc : TypeId × Value → H) (W : World) (base : Nat) (args : Array Value) (ds gs : List (DataW H)) (before : List MemPlace)
    (hval : ∀ (j : Nat) t v, Tryd.f4.params[j]? = some t → args[j]? = some v → Value.okWide Tryd.prog W .any base t v)
    (hW : DataW.Whole enc Tryd.prog Tryd.f4.params.toList Rows.bitsetChangesSpec.vars false W args.toList ds gs before) (hL : laidMetH Tryd.prog Rows.bitsetChangesRow.laid W) :
    Calls Tryd.prog 4 args W fun e W' => ∃ v, e = .returned v ∧ Rows.bitsetChangesSpec.post enc Tryd.prog Tryd.f4 false true false false W args v W' := by
  have hW' := hW
  obtain ⟨p, q, hA0, hV, rfl, hfz, hnd⟩ := hW
  obtain ⟨rfl, rfl⟩ := trodVars_none hV
  rw [List.append_nil] at hW'
  have hA : DataW.TrodAll enc Tryd.prog W 0 (fun _ => true) true Tryd.f4.params.toList args.toList ds p := hA0
  have hA2 := hA
  rw [Tryd.params4] at hA2 hval
  obtain ⟨v0, vs0, d0, ds0, p0, q0, hargs, rfl, rfl, h0, r0⟩ := trodAll_cons hA2
  obtain ⟨v1, vs1, d1, ds1, p1, q1, rfl, rfl, rfl, h1, r1⟩ := trodAll_cons r0
  obtain ⟨rfl, rfl, rfl⟩ := trodAll_nil r1
  obtain rfl : args = #[v0, v1] := by cases args; simp_all
  obtain ⟨sa, A, wa, ca, rfl, ha, _⟩ := open_set (hval 0 24 _ rfl rfl) h0
  obtain ⟨i, rfl, _, _, _⟩ := open_int Tryd.underlying3 (hval 1 3 _ rfl rfl) h1
  refine (changes_walk sa A ca wa i W ha (tabs_of_laid hL)).mono fun e W' ⟨he, hg⟩ => ?_
  exact ⟨_, he, law_post rfl hW' hA (by rw [Tryd.params4]; intro t ht; simp at ht; rcases ht with rfl | rfl <;> exact ⟨by kernel_rfl, of_decide_eq_true (by kernel_rfl)⟩) rfl rfl rfl rfl hg⟩

def zeroSet : Value := .agg #[.int .i64 0, .slice none 0 0]
theorem laid_met (os : Os) : laidMet Tryd.prog Rows.bitsetChangesRow.laid ((laidWorld os).forCall (fun _ _ => 0) ⟨#[], #[zeroSet, .int .i64 0], []⟩).memory :=
  laidMet_of_run' 8 (by kernel_rfl) (by kernel_rfl)
theorem reads (os : Os) {H : Type} (enc : TypeId × Value → H) : ∃ places, DataW.whole enc Tryd.prog ((laidWorld os).forCall (fun _ _ => 0) ⟨#[], #[zeroSet, .int .i64 0], []⟩).memory Tryd.f4.params.toList Rows.bitsetChangesSpec.vars false #[zeroSet, .int .i64 0].toList 8 = some ([.agg [.lit (.int .i64 0), .nil], .lit (.int .i64 0)], [], places) :=
  ⟨[], by kernel_rfl⟩

set_option maxRecDepth 100000 in
theorem lifted (os : Os) (started : os.Started) (H : Type) (enc : TypeId × Value → H) (F : Stop.Interp) :
    ReturnsInHanded {} Tryd.checked os 4 .any ((OpenSpec.ofChange Rows.bitsetChangesSpec).preRow enc Tryd.prog Tryd.f4 Rows.bitsetChangesRow.domain false Rows.bitsetChangesRow.laid) (((OpenSpec.ofChange Rows.bitsetChangesSpec).at F).post enc Tryd.prog Tryd.f4 false true false false) := by
  obtain ⟨places, hx⟩ := reads os enc
  refine returnsInHanded_of_row (C := Tryd.checked) (s := OpenSpec.ofChange Rows.bitsetChangesSpec) own started (by kernel_rfl) Tryd.func4
    (witness_row_at (enc := enc) (C := Tryd.checked) false (laidWorld os) #[zeroSet, .int .i64 0] rfl (by kernel_rfl) (by kernel_rfl) (by kernel_rfl)
      (OpenSpec.preRow_of_cond 8 hx (by kernel_rfl) (fun k hk => by cases hk) (by kernel_rfl) (laid_met os))) ?_
  intro W base args ds gs before hval hW _ _ _ hL _ _
  exact contract H enc W base args ds gs before hval hW hL

theorem said : Rows.BitsetChangesSaid :=
  OpenClaim.holds_of_cond 4 Tryd.f4 rfl rfl rfl rfl rfl rfl rfl ⟨rfl, rfl, rfl, rfl, rfl⟩ rfl rfl rfl rfl rfl (by kernel_rfl) Tryd.func4 (by kernel_rfl)
    (of_decide_eq_true (by kernel_rfl)) (by unfold Func.isWrapper; first | (rw [if_pos (by decide +kernel)]; kernel_rfl) | (rw [if_neg (by decide +kernel)]; exact ⟨rfl, rfl⟩))
    (fun os started H enc _ F => by rw [OpenClaim.pre_eq_preRow]; exact lifted os started H enc F)

theorem plain (f : FuncId) (fn : Func) (hf : Tryd.pinned.checked.prog.funcNamed "keyhole/keyholelaw03.BitsetChanges" = some f) (hfn : Tryd.pinned.checked.prog.funcs[f]? = some fn) :
    true = Tryd.pinned.checked.prog.looks [] ∧ ∀ (j : Nat) t, fn.params[j]? = some t → Tryd.pinned.checked.prog.wantsStandIn t = false := by
  obtain rfl : f = 4 := Option.some.inj ((show Tryd.prog.funcNamed "keyhole/keyholelaw03.BitsetChanges" = some 4 by kernel_rfl).symm.trans hf) |>.symm
  obtain rfl : fn = Tryd.f4 := (Option.some.inj (Tryd.func4.symm.trans hfn)).symm
  refine ⟨by kernel_rfl, fun j t ht => ?_⟩
  rw [Tryd.params4] at ht
  have h := Array.mem_of_getElem? ht
  simp at h
  rcases h with rfl | rfl
  · exact (show Tryd.prog.wantsStandIn 24 = false by kernel_rfl)
  · exact (show Tryd.prog.wantsStandIn 3 = false by kernel_rfl)

theorem card : Rows.BitsetChangesCardSaid :=
  Claim7.holds_tied_plain_at .later [] _ _ _ _ said (fun _ h => by cases h) (by kernel_rfl) (fun _ h => by cases h) bitsetChanges_row_tie rfl ⟨rfl, rfl⟩ (by kernel_rfl) rfl plain (by kernel_rfl)
end Go.Proofs.YtcfgeggfcnkckaaDoor.bitsetChanges
