/- The law CnfModels, walked. -/
import Derived.Test.YtdbboeknknlolaaWk
import Derived.Test.YtdbboeknknlolaaWh
namespace Go.Proofs.Ytdbboeknknlolaa
open Go.RowKit Go.Sort
set_option linter.unusedVariables false

theorem Bs.below {w w' : World} {b o : Nat} {bs : List Bool} (h : Bs w b o bs) (hb : Below w.heap.size w w') : Bs w' b o bs :=
  ⟨h.len, fun k u hu => by
    have h1 := h.c k u hu
    exact (hb.cell (World.block_lt_of_cell? w _ h1)).trans h1⟩
theorem canL_len (L : List (List Int)) : (canL L).length ≤ L.length := by
  unfold canL
  exact Nat.le_trans (srt_len _) (Nat.le_trans (List.length_filter_le _ _) (by rw [List.length_map]; exact Nat.le_refl _))
theorem canL_lens {L : List (List Int)} {n : Nat} (h : ∀ z ∈ L, z.length ≤ n) : ∀ z ∈ canL L, z.length ≤ n := by
  intro z hz
  obtain ⟨⟨y, hy, rfl⟩, _⟩ := canL_mem.1 hz
  exact Nat.le_trans (srt_len _) (h y hy)
set_option maxRecDepth 100000 in
set_option maxHeartbeats 4000000 in
theorem models_walk (cs : List Cl) (A : Option Addr) (ca : Nat) (w : World) (hx : LL w w.heap.size A cs) :
    Calls Try.prog 5 #[.slice A cs.length ca] w fun e w' => e = .returned (.bool true) ∧ Below w.heap.size w w' := by
  have HX := Lib.hid (fun W (h : Below w.heap.size w W) => hx.at h)
  obtain ⟨f, hf⟩ : ∃ f, Hid (fewL (ct cs) 20 100 = f) := ⟨_, Lib.hid rfl⟩
  have HF := Lib.hid (fun W (h : Below w.heap.size w W) => show Calls Try.prog 10 #[.slice A cs.length ca, .int .i64 20, .int .i64 100] W (fun e w' => e = .returned (.bool (fewL (ct cs) 20 100)) ∧ W = w') from few_any cs A ca 20 100 W (hx.at h) (by omega) (by omega))
  rw [hf.out] at HF
  go_enter Try.func5, Try.ntmps5
  go_wp2_with fail
  refine (known_ok _).mono ?_
  rintro r w1 ⟨rfl, b1⟩
  have HF1 := Lib.hid (HF.out _ b1)
  clear HF
  cases f with
  | false =>
    go_wp2_with fail
    refine HF1.out.mono ?_
    rintro r w2 ⟨rfl, rfl⟩
    clear HF1
    go_wp2_with fail
    go_ret
    exact ⟨rfl, b1⟩
  | true =>
    obtain ⟨hl20, hl100⟩ := fewL_bd (by omega) hf.out
    have hc6 : ∀ c ∈ cs, c.zs.length ≤ 1000000 := fun c hc => by have := hl100 c hc; omega
    have HP := Lib.hid (plain_any cs A ca w1 (hx.at b1) (by omega) hc6)
    obtain ⟨p, hp⟩ : ∃ p, Hid (plL (ct cs) = p) := ⟨_, Lib.hid rfl⟩
    rw [hp.out] at HP
    have HC := Lib.hid (canonical_any cs A ca w1 (hx.at b1) (by omega) hc6)
    unfold NLL at HC
    have HC6 := Lib.hid hc6
    have HL100 := Lib.hid hl100
    obtain ⟨n, hn⟩ : ∃ n, Hid (cs.length = n) := ⟨_, Lib.hid rfl⟩
    have HT := Lib.hid (fun (hp : plL (ct cs) = true) ib io ic bs W (h : Below w.heap.size w W) (hb : Bs W ib io bs) => true_any cs A ca ib io ic bs W (hx.at h) hp (by omega) hc6 hb)
    rw [hn.out] at HF1 HP HC HT hl20 ⊢
    clear hc6 hl100 hx HX
    go_wp2_with fail
    refine HF1.out.mono ?_
    rintro r w2 ⟨rfl, rfl⟩
    clear HF1
    go_wp2_with fail
    refine HP.out.mono ?_
    rintro r w2 ⟨rfl, rfl⟩
    clear HP
    cases p with
    | false =>
      clear HC HT
      go_wp2_with fail
      go_ret
      exact ⟨rfl, b1⟩
    | true =>
      go_wp2_with fail
      refine HC.out.mono ?_
      rintro r w3 ⟨A3, c3, ds, rfl, h1, h2, b3⟩
      clear HC
      have b4 := bTrans b1 b3
      have hpd : plL (ct ds) = true := by rw [h1]; exact plL_can hp.out
      have hd20 : ds.length ≤ 20 := by
        have e1 := congrArg List.length h1
        rw [List.length_map] at e1
        have := canL_len (ct cs)
        rw [List.length_map, hn.out] at this
        omega
      have hd6 : ∀ c ∈ ds, c.zs.length ≤ 1000000 := fun c hc => by
        have e1 : c.zs ∈ canL (ct cs) := by rw [← h1]; exact List.mem_map_of_mem hc
        refine canL_lens (fun z hz => ?_) _ e1
        obtain ⟨c', hc', rfl⟩ := List.mem_map.1 hz
        exact HC6.out c' hc'
      have HP2 := Lib.hid (plain_any ds A3 c3 w3 h2 (by omega) hd6)
      rw [hpd] at HP2
      have HT3 := Lib.hid (fun ib io ic bs W (h : Below w3.heap.size w3 W) (hb : Bs W ib io bs) => true_any ds A3 c3 ib io ic bs W (h2.at h) hpd (by omega) hd6 hb)
      have HE := Lib.hid (fun bs => show trL bs (ct ds) = trL bs (ct cs) by rw [h1]; exact models_eq (litB bs) (litB_neg bs) hp.out)
      have HT2 := Lib.hid (HT.out hp.out)
      have hd20' := hd20
      clear HT h1 h2 hpd hd6 b1 b3
      obtain ⟨d, hd⟩ : ∃ d, Hid (ds.length = d) := ⟨_, Lib.hid rfl⟩
      rw [hd.out] at HP2 HT3 hd20 hd20' ⊢
      go_wp2_with fail
      refine HP2.out.mono ?_
      rintro r w4 ⟨rfl, rfl⟩
      clear HP2
      have B0 := Below.refl w3.heap.size w3
      go_wp2_with fail
      go_loopw [4, 5] (fun kv v5 wr => ∃ k : Nat, k ≤ 64 ∧ kv = .int .i64 k ∧ Below w3.heap.size w3 wr) (fun kv _ _ => 64 - (intOf kv).toNat)
      case atStart => exact ⟨0, by omega, rfl, B0⟩
      case round =>
        clear B0
        obtain ⟨k, hk, rfl, X⟩ := hrel
        by_cases hlt : k < 64
        · have hlt2 : (k : Int) < 64 := by omega
          have HA := Lib.hid (assign_any k hlt wr)
          go_wp2_with fail
          refine HA.out.mono ?_
          rintro r w5 ⟨ib, ic, bs, rfl, hbs, b5⟩
          have X5 := bTrans X b5
          have H1 := Lib.hid (HT3.out ib 0 ic bs w5 X5 hbs)
          have H2 := Lib.hid (HT2.out ib 0 ic bs w5 (bTrans b4 X5) hbs)
          have HEb := HE.out bs
          obtain ⟨u, hu⟩ : ∃ u, Hid (trL bs (ct cs) = u) := ⟨_, Lib.hid rfl⟩
          rw [hu.out] at HEb H2
          rw [HEb] at H1
          clear HA hbs HEb b5 X
          go_wp2_with fail
          refine H1.out.mono ?_
          rintro r w6 ⟨rfl, rfl⟩
          clear H1
          go_wp2_with fail
          refine H2.out.mono ?_
          rintro r w6 ⟨rfl, rfl⟩
          clear H2 hu
          cases u with
          | true =>
            go_wp2_with fail
            go_roundw
            case rel => exact ⟨k + 1, by omega, by go_num, X5⟩
            case measure => simp [intOf]; omega
          | false =>
            go_wp2_with fail
            go_roundw
            case rel => exact ⟨k + 1, by omega, by go_num, X5⟩
            case measure => simp [intOf]; omega
        · obtain rfl : k = 64 := by omega
          go_wp2_with fail
          go_ret
          exact ⟨rfl, bTrans b4 X⟩
end Go.Proofs.Ytdbboeknknlolaa
