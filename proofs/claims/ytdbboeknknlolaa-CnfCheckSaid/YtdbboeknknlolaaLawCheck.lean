/- The law CnfCheck, walked. -/
import Derived.Test.YtdbboeknknlolaaWs
import Derived.Test.YtdbboeknknlolaaWh
namespace Go.Proofs.Ytdbboeknknlolaa
open Go.RowKit Go.Sort
set_option linter.unusedVariables false

set_option maxRecDepth 100000 in
set_option maxHeartbeats 4000000 in
theorem check_walk (cs : List Cl) (A : Option Addr) (ca : Nat) (v k : Int) (w : World) (hx : LL w w.heap.size A cs) :
    Calls Try.prog 3 #[.agg #[.int .i64 v, .int .i64 k, .slice A cs.length ca]] w fun e w' => e = .returned (.bool true) ∧ Below w.heap.size w w' := by
  have B := Blk.new_ w #[.int .i64 v, .int .i64 k, .slice A cs.length ca] 24
  have b0 := al1 w (.cells #[.int .i64 v, .int .i64 k, .slice A cs.length ca] 24)
  obtain ⟨n, hn⟩ : ∃ n, Hid (cs.length = n) := ⟨_, Lib.hid rfl⟩
  obtain ⟨f, hf⟩ : ∃ f, Hid (fewL (ct cs) 60 300 = f) := ⟨_, Lib.hid rfl⟩
  have HF := Lib.hid (fun W (h : Below w.heap.size w W) => show Calls Try.prog 10 #[.slice A cs.length ca, .int .i64 60, .int .i64 300] W (fun e w' => e = .returned (.bool (fewL (ct cs) 60 300)) ∧ W = w') from few_any cs A ca 60 300 W (hx.at h) (by omega) (by omega))
  have HC1 := Lib.hid (fun (h60 : cs.length ≤ 60) (hc : ∀ c ∈ cs, (c.zs.length : Int) ≤ 300) W (h : Below w.heap.size w W) => ccheck_any cs A ca v k W (hx.at h) (by omega) (fun c h' => by have := hc c h'; omega))
  have HC2 := Lib.hid (fun (h60 : cs.length ≤ 60) (hc : ∀ c ∈ cs, (c.zs.length : Int) ≤ 300) W (h : Below w.heap.size w W) => lcheck_any cs A ca v k W (hx.at h) (by omega) (fun c h' => by have := hc c h'; omega))
  rw [hf.out] at HF
  rw [hn.out] at HF B b0 HC1 HC2 ⊢
  clear hx
  go_enter Try.func3, Try.ntmps3
  go_upto_region 1 with (fail)
  revert B
  revert b0
  generalize w.alloc (.cells #[.int .i64 v, .int .i64 k, .slice A n ca] 24) = w0
  intro b0 B
  have HB := Lib.hid (fun W (h : Below w0.heap.size w0 W) => show W.cell? ⟨w.heap.size, 0, none⟩ = some (.int .i64 v) ∧ W.cell? ⟨w.heap.size, 1, none⟩ = some (.int .i64 k) ∧ W.cell? ⟨w.heap.size, 2, none⟩ = some (.slice A n ca) from ⟨(B.below h B.lt).c 0 rfl, (B.below h B.lt).c 1 rfl, (B.below h B.lt).c 2 rfl⟩)
  clear B
  go_wp2_with fail
  refine (known_ok _).mono ?_
  rintro r w1 ⟨rfl, b1⟩
  have HF1 := Lib.hid (HF.out _ (bTrans b0 b1))
  obtain ⟨c0, c1, c2⟩ := HB.out _ b1
  clear HF
  cases f with
  | false =>
    clear HC1 HC2
    go_wp2_with fail
    refine HF1.out.mono ?_
    rintro r w2 ⟨rfl, rfl⟩
    clear HF1
    go_wp2_with fail
    go_ret
    exact ⟨rfl, bTrans b0 b1⟩
  | true =>
    obtain ⟨hl60, hl300⟩ := fewL_bd (by omega) hf.out
    have HD1 := Lib.hid (HC1.out (by have := hn.out; omega) hl300)
    have HD2 := Lib.hid (HC2.out (by have := hn.out; omega) hl300)
    obtain ⟨R, hR⟩ : ∃ R, Hid (cfCode v k (ct cs) = R) := ⟨_, Lib.hid rfl⟩
    rw [hR.out] at HD1 HD2
    clear HC1 HC2 hl60 hl300 hR
    go_wp2_with fail
    refine HF1.out.mono ?_
    rintro r w2 ⟨rfl, rfl⟩
    clear HF1 c0 c1 c2
    have X : Below w0.heap.size w0 w1.drew := b1.drew
    go_upto_region 5 with (fail)
    go_region_held3 (fun w' => w'.cell? ⟨w.heap.size, 0, none⟩ = some (.int .i64 v) ∧ w'.cell? ⟨w.heap.size, 1, none⟩ = some (.int .i64 k) ∧ w'.cell? ⟨w.heap.size, 2, none⟩ = some (.slice A n ca))
      (exact HB.out _ X)
      (first
        | (go_at_call 11; (with_reducible refine (HD1.out _ (bTrans b0 X)).mono ?_); rintro r w5 ⟨rfl, q1⟩; replace X := bTrans X q1.bel)
        | (go_at_call 12; (with_reducible refine (HD2.out _ (bTrans b0 X)).mono ?_); rintro r w6 ⟨rfl, q2⟩; replace X := bTrans X q2))
    all_goals
      have X2 := bTrans b0 X
      clear HB HD1 HD2
      go_wp2_with fail
      go_ret
      exact ⟨by simp, X2⟩
end Go.Proofs.Ytdbboeknknlolaa
