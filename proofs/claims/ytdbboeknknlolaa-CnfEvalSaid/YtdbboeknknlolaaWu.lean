/- Walks: Eval of the package. -/
import Derived.Test.YtdbboeknknlolaaWt
namespace Go.Proofs.Ytdbboeknknlolaa
open Go.RowKit Go.Sort
set_option linter.unusedVariables false

/-- what Eval answers -/
def evC (v k : Int) (L : List (List Int)) (N : Nat) : Int := if cfCode v k L = 0 then (if (N : Int) = v then 0 else 2) else cfCode v k L
def evB (v k : Int) (L : List (List Int)) (bs : List Bool) : Bool := decide (cfCode v k L = 0) && (decide ((bs.length : Int) = v) && trL bs L)
theorem cf_zero {v k : Int} {L : List (List Int)} (h : cfCode v k L = 0) : (0 ≤ v ∧ v ≤ 20000) ∧ wiL v L = true := by
  unfold cfCode at h
  by_cases h1 : v < 0 ∨ k < 0 ∨ v < k
  · rw [if_pos h1] at h; omega
  · rw [if_neg h1] at h
    by_cases h2 : 20000 < v
    · rw [if_pos h2] at h; omega
    · rw [if_neg h2] at h
      refine ⟨by omega, ?_⟩
      cases hw : wiL v L with
      | true => rfl
      | false => rw [if_pos hw] at h; omega
set_option maxRecDepth 100000 in
set_option maxHeartbeats 4000000 in
theorem eval_any (cs : List Cl) (A : Option Addr) (ca : Nat) (v k : Int) (bs : List Bool) (D : Option Addr) (ic : Nat) (w : World) (hx : LL w w.heap.size A cs) (hlx : cs.length ≤ 60000) (hcx : ∀ c ∈ cs, c.zs.length ≤ 1000000) (hb : Row w w.heap.size D (bvals bs)) :
    Calls Try.prog 21 #[.agg #[.int .i64 v, .int .i64 k, .slice A cs.length ca], .slice D bs.length ic] w fun e w' => e = .returned (.tuple #[.bool (evB v k (ct cs) bs), .int .i64 (evC v k (ct cs) bs.length)]) ∧ Gro w w' := by
  have B := (Blk.new_ w #[.int .i64 v, .int .i64 k, .slice A cs.length ca] 24).alloc (.cells #[.slice D bs.length ic] 39)
  have O := One.new_ (w.alloc (.cells #[.int .i64 v, .int .i64 k, .slice A cs.length ca] 24)) (.slice D bs.length ic) 39
  have g1 := (Gro.al w (.cells #[.int .i64 v, .int .i64 k, .slice A cs.length ca] 24)).trans (Gro.al _ (.cells #[.slice D bs.length ic] 39))
  rw [World.size_alloc] at O
  obtain ⟨n, hn⟩ : ∃ n, Hid (cs.length = n) := ⟨_, Lib.hid rfl⟩
  obtain ⟨N, hN⟩ : ∃ n, Hid (bs.length = n) := ⟨_, Lib.hid rfl⟩
  have HX := Lib.hid (fun W (h : Gro w W) => hx.at h.bel)
  have HCX := Lib.hid hcx
  have HBS := Lib.hid (fun W (h : Gro w W) => (hb.below h.bel).more h.bel.size)
  have HC := Lib.hid (fun W (h : Gro w W) => ccheck_any cs A ca v k W (hx.at h.bel) hlx hcx)
  obtain ⟨R, hR⟩ : ∃ R, Hid (cfCode v k (ct cs) = R) := ⟨_, Lib.hid rfl⟩
  obtain ⟨eb, heb⟩ : ∃ R, Hid (evB v k (ct cs) bs = R) := ⟨_, Lib.hid rfl⟩
  obtain ⟨ec, hec⟩ : ∃ R, Hid (evC v k (ct cs) bs.length = R) := ⟨_, Lib.hid rfl⟩
  have HEB : Hid (eb = (decide (R = 0) && (decide ((N : Int) = v) && trL bs (ct cs)))) := Lib.hid (by rw [← heb.out, ← hR.out, ← hN.out]; rfl)
  have HEC : Hid (ec = if R = 0 then (if (N : Int) = v then 0 else 2) else R) := Lib.hid (by rw [← hec.out, ← hR.out, ← hN.out]; rfl)
  rw [heb.out, hec.out]
  rw [hR.out] at HC
  rw [hn.out] at HC B g1 O hlx ⊢
  rw [hN.out] at B O g1 ⊢
  clear hx hcx hb heb hec
  go_enter Try.func21, Try.ntmps21
  go_upto_region 1 with (fail)
  revert B
  revert O
  revert g1
  generalize (w.alloc (.cells #[.int .i64 v, .int .i64 k, .slice A n ca] 24)).alloc (.cells #[.slice D N ic] 39) = w1
  intro g1 O B
  have c0 := B.c 0 rfl
  have c1 := B.c 1 rfl
  have c2 := B.c 2 rfl
  have HC1 := Lib.hid (HC.out _ g1)
  clear HC
  go_wp2_with fail
  refine HC1.out.mono ?_
  rintro r w2 ⟨rfl, g2⟩
  have g3 := g1.trans g2
  clear HC1 c0 c1 c2
  have B2 := B.below g2.bel B.lt
  have O2 := O.below g2.bel O.lt
  clear B O
  by_cases h0 : R = 0
  · have q0 : (R != 0) = false := by rw [h0]; rfl
    obtain ⟨⟨hv0, hv1⟩, hw⟩ := cf_zero (hR.out.trans h0)
    have HB1 : Hid (eb = (decide ((N : Int) = v) && trL bs (ct cs))) := Lib.hid (by rw [HEB.out, decide_eq_true h0]; rfl)
    have HC1 : Hid (ec = if (N : Int) = v then 0 else 2) := Lib.hid (by rw [HEC.out, if_pos h0])
    clear HEB HEC hR
    have d0 := B2.c 0 rfl
    have d2 := B2.c 2 rfl
    have o0 := O2.c
    by_cases hnv : (N : Int) = v
    · have q1 : ((N : Int) != v) = false := by rw [hnv]; simp
      have HB2 : Hid (eb = trL bs ((ct cs).drop 0)) := Lib.hid (by rw [HB1.out, decide_eq_true hnv]; rfl)
      have hec : ec = 0 := by rw [HC1.out, if_pos hnv]
      subst hec
      have HCO := Lib.hid (fun c (hc : c ∈ cs) (hz : Zs w2 w2.heap.size c.ad c.zs) => evco_any c.zs c.ad c.cap bs D ic (w.heap.size + 1) w2 hz (HCX.out c hc) (fun x hxz => by
        have h5 := wiL_mem hw (List.mem_map_of_mem hc) hxz
        rw [← hnv, ← hN.out] at h5
        exact h5) (by rw [hN.out]; omega) (HBS.out _ g3) (by rw [hN.out]; exact o0))
      have HX2 := Lib.hid (HX.out _ g3)
      clear HB1 HC1 hw HX HBS hnv h0
      go_wp2_with fail
      go_loop [9, 24] (fun v9 iv => ∃ i : Nat, i ≤ n ∧ iv = .int .i64 i ∧ Hid (eb = trL bs ((ct cs).drop i))) (fun _ iv => n - (intOf iv).toNat)
      case atStart => exact ⟨0, Nat.zero_le _, rfl, HB2⟩
      case round =>
        clear HB2
        obtain ⟨i, hi, rfl, H1⟩ := hrel
        by_cases hlt : i < n
        · obtain ⟨b, off, c, rfl, hb, f0, hci, zc⟩ := HX2.out.at_ (show i < cs.length by rw [hn.out]; exact hlt)
          have HA := Lib.hid (HCO.out c (List.mem_of_getElem? hci) zc)
          have H2 : Hid (eb = (c.zs.any (litB bs) && trL bs ((ct cs).drop (i + 1)))) := Lib.hid (by
            rw [H1.out, drop_cons_ (l := ct cs) (i := i) (x := c.zs) (by rw [List.getElem?_map, hci]; rfl)]; rfl)
          obtain ⟨u, hu⟩ : ∃ u, Hid (c.zs.any (litB bs) = u) := ⟨_, Lib.hid rfl⟩
          rw [hu.out] at HA H2
          clear H1 hci zc hu
          go_wp2_with fail
          refine HA.out.mono ?_
          rintro r w3 ⟨rfl, rfl⟩
          clear HA
          cases u with
          | false =>
            have he : eb = false := by rw [H2.out]; rfl
            subst he
            clear H2 HCO
            go_wp2_with fail
            refine bodyPost_ret (v := .tuple #[.bool false, .int .i64 0]) (by simp [results, Try.results21, go_sem]) rfl ?_
            exact ⟨rfl, g3⟩
          | true =>
            have H3 : Hid (eb = trL bs ((ct cs).drop (i + 1))) := Lib.hid (by rw [H2.out]; rfl)
            clear H2
            go_wp2_with fail
            go_round
            case rel => exact ⟨i + 1, by omega, by go_num, H3⟩
            case measure => simp [intOf]; omega
        · obtain rfl : i = n := by omega
          have he : eb = true := by rw [H1.out, List.drop_of_length_le (by rw [List.length_map, hn.out]; exact Nat.le_refl _)]; rfl
          subst he
          clear H1 HX2 HCO
          go_wp2_with fail
          refine bodyPost_ret (v := .tuple #[.bool true, .int .i64 0]) (by simp [results, Try.results21, go_sem]) rfl ?_
          exact ⟨rfl, g3⟩
    · have q1 : ((N : Int) != v) = true := bne_iff_ne.2 hnv
      have he : eb = false := by rw [HB1.out, decide_eq_false hnv]; rfl
      have hec : ec = 2 := by rw [HC1.out, if_neg hnv]
      subst he
      subst hec
      clear HB1 HC1 HX HBS hw h0 hnv
      go_wp2_with fail
      refine bodyPost_ret (v := .tuple #[.bool false, .int .i64 2]) (by simp [results, Try.results21, go_sem]) rfl ?_
      exact ⟨rfl, g3⟩
  · have q0 : (R != 0) = true := bne_iff_ne.2 h0
    have he : eb = false := by rw [HEB.out, decide_eq_false h0]; rfl
    have hec : ec = R := by rw [HEC.out, if_neg h0]
    subst he
    subst hec
    clear HEB HEC HX HBS hR h0
    go_wp2_with fail
    refine bodyPost_ret (v := .tuple #[.bool false, .int .i64 ec]) (by simp [results, Try.results21, go_sem]) rfl ?_
    exact ⟨rfl, g3⟩
end Go.Proofs.Ytdbboeknknlolaa
