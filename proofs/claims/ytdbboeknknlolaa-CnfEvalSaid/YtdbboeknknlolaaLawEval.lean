/- The law CnfEval, walked. -/
import Derived.Test.YtdbboeknknlolaaWu
import Derived.Test.YtdbboeknknlolaaWs
import Derived.Test.YtdbboeknknlolaaWh
namespace Go.Proofs.Ytdbboeknknlolaa
open Go.RowKit Go.Sort
set_option linter.unusedVariables false

set_option maxRecDepth 100000 in
set_option maxHeartbeats 4000000 in
theorem eval_walk (cs : List Cl) (A : Option Addr) (ca : Nat) (v k : Int) (bs : List Bool) (D : Option Addr) (ic : Nat) (w : World) (hx : LL w w.heap.size A cs) (hb : Row w w.heap.size D (bvals bs)) :
    Calls Try.prog 6 #[.agg #[.int .i64 v, .int .i64 k, .slice A cs.length ca], .slice D bs.length ic] w fun e w' => e = .returned (.bool true) ∧ Below w.heap.size w w' := by
  have B := Blk.new_ w #[.int .i64 v, .int .i64 k, .slice A cs.length ca] 24
  have b0 := al1 w (.cells #[.int .i64 v, .int .i64 k, .slice A cs.length ca] 24)
  obtain ⟨n, hn⟩ : ∃ n, Hid (cs.length = n) := ⟨_, Lib.hid rfl⟩
  obtain ⟨N, hN⟩ : ∃ n, Hid (bs.length = n) := ⟨_, Lib.hid rfl⟩
  obtain ⟨f, hf⟩ : ∃ f, Hid (fewL (ct cs) 60 300 = f) := ⟨_, Lib.hid rfl⟩
  have HF := Lib.hid (fun W (h : Below w.heap.size w W) => show Calls Try.prog 10 #[.slice A cs.length ca, .int .i64 60, .int .i64 300] W (fun e w' => e = .returned (.bool (fewL (ct cs) 60 300)) ∧ W = w') from few_any cs A ca 60 300 W (hx.at h) (by omega) (by omega))
  have HBS := Lib.hid (fun W (h : Below w.heap.size w W) => show Row W W.heap.size D (bvals bs) from (hb.below h).more h.size)
  have HC1 := Lib.hid (fun (h60 : cs.length ≤ 60) (hc : ∀ c ∈ cs, (c.zs.length : Int) ≤ 300) W (h : Below w.heap.size w W) => eval_any cs A ca v k bs D ic W (hx.at h) (by omega) (fun c h' => by have := hc c h'; omega) ((hb.below h).more h.size))
  have HC2 := Lib.hid (fun (h60 : cs.length ≤ 60) (hc : ∀ c ∈ cs, (c.zs.length : Int) ≤ 300) W (h : Below w.heap.size w W) => lcheck_any cs A ca v k W (hx.at h) (by omega) (fun c h' => by have := hc c h'; omega))
  have HT := Lib.hid (fun (h60 : cs.length ≤ 60) (hc : ∀ c ∈ cs, (c.zs.length : Int) ≤ 300) (hw : wiL bs.length (ct cs) = true) (hNN : bs.length ≤ 20000) W (h : Below w.heap.size w W) => true_gen cs A ca D ic bs W (hx.at h) hw (by omega) (fun c h' => by have := hc c h'; omega) ((hb.below h).more h.size) hNN)
  rw [hf.out] at HF
  rw [hN.out] at HC1 HT ⊢
  rw [hn.out] at HF B b0 HC1 HC2 HT ⊢
  clear hx hb
  go_enter Try.func6, Try.ntmps6
  go_upto_region 1 with (fail)
  revert B
  revert b0
  generalize w.alloc (.cells #[.int .i64 v, .int .i64 k, .slice A n ca] 24) = w0
  intro b0 B
  have HB := Lib.hid (fun W (h : Below w0.heap.size w0 W) => show W.cell? ⟨w.heap.size, 0, none⟩ = some (.int .i64 v) ∧ W.cell? ⟨w.heap.size, 1, none⟩ = some (.int .i64 k) ∧ W.cell? ⟨w.heap.size, 2, none⟩ = some (.slice A n ca) from ⟨(B.below h B.lt).c 0 rfl, (B.below h B.lt).c 1 rfl, (B.below h B.lt).c 2 rfl⟩)
  clear B
  go_wp2_with fail
  refine (known_ok _).mono ?_
  rintro r w1 ⟨rfl, b1⟩
  have HF1 := Lib.hid (HF.out _ (bTrans b0 b1))
  obtain ⟨c0, c1, c2⟩ := HB.out _ b1
  clear HF
  cases f with
  | false =>
    clear HC1 HC2 HT HBS
    go_wp2_with fail
    refine HF1.out.mono ?_
    rintro r w2 ⟨rfl, rfl⟩
    clear HF1
    go_wp2_with fail
    go_ret
    exact ⟨rfl, bTrans b0 b1⟩
  | true =>
    obtain ⟨hl60, hl300⟩ := fewL_bd (by omega) hf.out
    have hl60' : n ≤ 60 := by have := hn.out; omega
    have HD1 := Lib.hid (HC1.out hl60' hl300 w1 (bTrans b0 b1))
    have HD2 := Lib.hid (HC2.out hl60' hl300)
    have HT2 := Lib.hid (HT.out hl60' hl300)
    obtain ⟨R, hR⟩ : ∃ R, Hid (cfCode v k (ct cs) = R) := ⟨_, Lib.hid rfl⟩
    obtain ⟨eb, heb⟩ : ∃ R, Hid (evB v k (ct cs) bs = R) := ⟨_, Lib.hid rfl⟩
    obtain ⟨ec, hec⟩ : ∃ R, Hid (evC v k (ct cs) N = R) := ⟨_, Lib.hid rfl⟩
    have HEB : Hid (eb = (decide (R = 0) && (decide ((N : Int) = v) && trL bs (ct cs)))) := Lib.hid (by rw [← heb.out, ← hR.out, ← hN.out]; rfl)
    have HEC : Hid (ec = if R = 0 then (if (N : Int) = v then 0 else 2) else R) := Lib.hid (by rw [← hec.out, ← hR.out]; rfl)
    rw [heb.out, hec.out] at HD1
    rw [hR.out] at HD2
    clear HC1 HC2 HT hl60 hl300 heb hec hl60'
    go_wp2_with fail
    refine HF1.out.mono ?_
    rintro r w2 ⟨rfl, rfl⟩
    clear HF1
    go_wp2_with fail
    refine HD1.out.mono ?_
    rintro r w2 ⟨rfl, g2⟩
    clear HD1 c0 c1 c2
    have b2 := bTrans b1 g2.bel
    obtain ⟨c0, c1, c2⟩ := HB.out _ b2
    have HD3 := Lib.hid (HD2.out _ (bTrans b0 b2))
    clear HD2 b1 g2
    go_wp2_with fail
    refine HD3.out.mono ?_
    rintro r w3 ⟨rfl, b3⟩
    have b4 := bTrans b2 b3
    clear HD3 c0 c1 c2
    obtain ⟨c0, c1, c2⟩ := HB.out _ b4
    have b5 := bTrans b0 b4
    clear b2 b3
    by_cases h0 : R = 0
    · obtain ⟨⟨hv0, hv1⟩, hw⟩ := cf_zero (hR.out.trans h0)
      have q0 : (R == 0) = true := by rw [h0]; rfl
      have q1 : (R != 0) = false := by rw [h0]; rfl
      have HB1 : Hid (eb = (decide ((N : Int) = v) && trL bs (ct cs))) := Lib.hid (by rw [HEB.out, decide_eq_true h0]; rfl)
      have HE1 : Hid (ec = if (N : Int) = v then 0 else 2) := Lib.hid (by rw [HEC.out, if_pos h0])
      subst h0
      by_cases hnv : (N : Int) = v
      · have q2 : ((N : Int) != v) = false := by rw [hnv]; simp
        have hec : ec = 0 := by rw [HE1.out, if_pos hnv]
        have HB2 : Hid (eb = trL bs (ct cs)) := Lib.hid (by rw [HB1.out, decide_eq_true hnv]; rfl)
        subst hec
        have HT3 := Lib.hid (HT2.out (by rw [hnv]; exact hw) (by omega) _ b5)
        obtain ⟨u, hu⟩ : ∃ u, Hid (trL bs (ct cs) = u) := ⟨_, Lib.hid rfl⟩
        rw [hu.out] at HT3 HB2
        have he : eb = u := HB2.out
        subst he
        clear HEB HEC HB1 HE1 hw HT2 hu HB2 hR hnv
        go_wp2_with fail
        refine HT3.out.mono ?_
        rintro r w4 ⟨rfl, rfl⟩
        clear HT3
        go_wp2_with fail
        go_ret
        exact ⟨by simp, b5⟩
      · have q2 : ((N : Int) != v) = true := bne_iff_ne.2 hnv
        have hec : ec = 2 := by rw [HE1.out, if_neg hnv]
        have he : eb = false := by rw [HB1.out, decide_eq_false hnv]; rfl
        subst hec
        subst he
        clear HEB HEC HB1 HE1 hw HT2 hR hnv
        go_wp2_with fail
        go_ret
        exact ⟨rfl, b5⟩
    · have q0 : (R == 0) = false := by rw [beq_eq_false_iff_ne]; exact h0
      have q1 : (R != 0) = true := bne_iff_ne.2 h0
      have hec : ec = R := by rw [HEC.out, if_neg h0]
      have he : eb = false := by rw [HEB.out, decide_eq_false h0]; rfl
      subst hec
      subst he
      have q3 : (ec == ec) = true := by simp
      clear HEB HEC HT2 hR h0
      go_wp2_with fail
      go_ret
      exact ⟨rfl, b5⟩
end Go.Proofs.Ytdbboeknknlolaa
