/- Walks: Check of the laws. -/
import Derived.Test.YtdbboeknknlolaaWq
namespace Go.Proofs.Ytdbboeknknlolaa
open Go.RowKit Go.Sort
set_option linter.unusedVariables false

set_option maxRecDepth 100000 in
set_option maxHeartbeats 4000000 in
theorem lcheck_any (cs : List Cl) (A : Option Addr) (ca : Nat) (v k : Int) (w : World) (hx : LL w w.heap.size A cs) (hlx : cs.length ≤ 60000) (hcx : ∀ c ∈ cs, c.zs.length ≤ 1000000) :
    Calls Try.prog 12 #[.agg #[.int .i64 v, .int .i64 k, .slice A cs.length ca]] w fun e w' => e = .returned (.int .i64 (cfCode v k (ct cs))) ∧ Below w.heap.size w w' := by
  have B := Blk.new_ w #[.int .i64 v, .int .i64 k, .slice A cs.length ca] 24
  have g1 := Gro.al w (.cells #[.int .i64 v, .int .i64 k, .slice A cs.length ca] 24)
  obtain ⟨n, hn⟩ : ∃ n, Hid (cs.length = n) := ⟨_, Lib.hid rfl⟩
  have HX := Lib.hid (fun W (h : Below w.heap.size w W) => hx.at h)
  have HCX := Lib.hid hcx
  have HCN := Lib.hid (fun W (h : Below w.heap.size w W) => lcanonical_any cs A ca W (hx.at h) (by omega) hcx)
  have HEQ := Lib.hid (fun W (h : Below w.heap.size w W) A2 c2 ds (h1 : ct ds = canL (ct cs)) (h2 : LL W W.heap.size A2 ds) => show Calls Try.prog 14 #[.slice A cs.length ca, .slice A2 ds.length c2] W (fun e w' => e = .returned (.bool (isCan (ct cs))) ∧ Dr W w') from by
    have hdl : ds.length ≤ 60000 := by
      have e1 := congrArg List.length h1
      rw [List.length_map] at e1
      have e2 : (canL (ct cs)).length ≤ (ct cs).length := by
        unfold canL
        exact Nat.le_trans (srt_len _) (Nat.le_trans (List.length_filter_le _ _) (by rw [List.length_map]; exact Nat.le_refl _))
      rw [List.length_map] at e2
      omega
    have hdc : ∀ c ∈ ds, c.zs.length ≤ 1000000 := fun c hc => by
      have e1 : c.zs ∈ canL (ct cs) := by rw [← h1]; exact List.mem_map_of_mem hc
      obtain ⟨⟨y, hy, e2⟩, _⟩ := canL_mem.1 e1
      obtain ⟨c', hc', rfl⟩ := List.mem_map.1 hy
      rw [← e2]
      exact Nat.le_trans (srt_len _) (hcx c' hc')
    have := equal_any cs ds A A2 ca c2 W (hx.at h) h2 (by omega) (by omega) hcx hdc
    rw [h1, isCan_dec] at this
    exact this)
  obtain ⟨R, hR⟩ : ∃ R, Hid (cfCode v k (ct cs) = R) := ⟨_, Lib.hid rfl⟩
  obtain ⟨t, ht⟩ : ∃ t, Hid (isCan (ct cs) = t) := ⟨_, Lib.hid rfl⟩
  have HR : Hid (R = if v < 0 ∨ k < 0 ∨ v < k then 1 else if 20000 < v then 4 else if wiL v (ct cs) = false then 3 else if t = false then 10 else 0) := Lib.hid (by rw [← hR.out, ← ht.out]; rfl)
  rw [hR.out]
  rw [hn.out] at HCN HEQ B g1 hlx ⊢
  rw [ht.out] at HEQ
  have h60 : ¬ (60000 : Int) < (n : Int) := by omega
  clear hx hcx hR ht
  go_enter Try.func12, Try.ntmps12
  go_upto_region 1 with (fail)
  revert B
  revert g1
  generalize w.alloc (.cells #[.int .i64 v, .int .i64 k, .slice A n ca] 24) = w1
  intro g1 B
  have c0 := B.c 0 rfl
  have c1 := B.c 1 rfl
  have c2 := B.c 2 rfl
  by_cases h1 : v < 0
  · have hr : R = 1 := by rw [HR.out, if_pos (.inl h1)]
    subst hr
    clear HR HCN HEQ B
    go_wp2_with fail
    go_ret
    exact ⟨rfl, g1.bel⟩
  by_cases h2 : k < 0
  · have hr : R = 1 := by rw [HR.out, if_pos (.inr (.inl h2))]
    subst hr
    clear HR HCN HEQ B
    go_wp2_with fail
    go_ret
    exact ⟨rfl, g1.bel⟩
  by_cases h3 : v < k
  · have hr : R = 1 := by rw [HR.out, if_pos (.inr (.inr h3))]
    subst hr
    clear HR HCN HEQ B
    go_wp2_with fail
    go_ret
    exact ⟨rfl, g1.bel⟩
  by_cases h4 : 20000 < v
  · have hr : R = 4 := by rw [HR.out, if_neg (by omega), if_pos h4]
    subst hr
    clear HR HCN HEQ B
    go_wp2_with fail
    go_ret
    exact ⟨rfl, g1.bel⟩
  have H2 : Hid (R = if wiL v ((ct cs).drop 0) = false then 3 else if t = false then 10 else 0) := Lib.hid (by rw [HR.out, if_neg (by omega), if_neg h4]; rfl)
  have hv0 : 0 ≤ v := by omega
  have e1 : IntKind.u64.wrap v = v := by simp [IntKind.wrap, IntKind.bits, IntKind.signed]; omega
  have HB := Lib.hid (fun W (h : Gro w1 W) => B.below h.bel B.lt)
  have Y0 := Gro.refl w1
  clear HR B
  go_wp2_with fail
  clear c0 c1 c2
  go_loopw [4, 6, 34] (fun v4 v6 iv wr => ∃ i : Nat, i ≤ n ∧ iv = .int .i64 i ∧ Hid (R = if wiL v ((ct cs).drop i) = false then 3 else if t = false then 10 else 0) ∧ Gro w1 wr) (fun _ _ iv _ => n - (intOf iv).toNat)
  case atStart => exact ⟨0, Nat.zero_le _, rfl, H2, Y0⟩
  case round =>
    clear H2 Y0
    obtain ⟨i, hi, rfl, H1, Y⟩ := hrel
    by_cases hlt : i < n
    · obtain ⟨b, off, c, rfl, hb, d0, hci, zc⟩ := (HX.out _ (g1.trans Y).bel).at_ (show i < cs.length by rw [hn.out]; exact hlt)
      have hcl := HCX.out c (List.mem_of_getElem? hci)
      obtain ⟨d, hd⟩ : ∃ d, Hid (c.zs.length = d) := ⟨_, Lib.hid rfl⟩
      rw [hd.out] at d0 hcl
      have HZ := Lib.hid (fun W (h : Gro wr W) => zc.at h.bel)
      have wr0 := wr
      have H3 : Hid (R = if ((c.zs.drop 0).all (isLit v) && wiL v ((ct cs).drop (i + 1))) = false then 3 else if t = false then 10 else 0) := Lib.hid (by
        rw [H1.out, drop_cons_ (l := ct cs) (i := i) (x := c.zs) (by rw [List.getElem?_map, hci]; rfl)]; rfl)
      have Z0 := Gro.refl wr
      have HY := Lib.hid Y
      clear H1 hci zc wr0 Y
      go_wp2_with fail
      clear d0
      go_loopw [6, 40] (fun v6 jv ws => ∃ j : Nat, j ≤ d ∧ jv = .int .i64 j ∧ Hid (R = if ((c.zs.drop j).all (isLit v) && wiL v ((ct cs).drop (i + 1))) = false then 3 else if t = false then 10 else 0) ∧ Gro wr ws) (fun _ jv _ => d - (intOf jv).toNat)
      case atStart => exact ⟨0, Nat.zero_le _, rfl, H3, Z0⟩
      case round =>
        clear H3 Z0
        obtain ⟨j, hj, rfl, H4, Z⟩ := hrel
        by_cases hjm : j < d
        · obtain ⟨b2, off2, x, hax, hb2, f1, hxi, rx⟩ := (HZ.out _ Z).at_ (show j < c.zs.length by rw [hd.out]; exact hjm)
          rw [hax]
          have H5 : Hid (R = if (isLit v x && ((c.zs.drop (j + 1)).all (isLit v) && wiL v ((ct cs).drop (i + 1)))) = false then 3 else if t = false then 10 else 0) := Lib.hid (by
            rw [H4.out, drop_cons_ hxi, List.all_cons, Bool.and_assoc])
          have k0 := (HB.out _ (HY.out.trans Z)).c 0 rfl
          have Zh := Lib.hid (fun q => Z.trans (Gro.dr _ q))
          clear H4 hxi hax
          by_cases h0 : x = 0
          · have he0 : R = 3 := by rw [H5.out]; unfold isLit; rw [h0]; rfl
            subst he0
            have q0 : (x == 0) = true := by rw [h0]; rfl
            clear H5 h0 HCN HEQ HX HZ Z HCX
            go_wp2_with fail
            go_quiet (fail)
            go_wp2_with fail
            go_ret
            exact ⟨rfl, (g1.trans (HY.out.trans (Zh.out _))).bel⟩
          · have q0 : (x == 0) = false := by rw [beq_eq_false_iff_ne]; exact h0
            have HM := Lib.hid (fun W => lmag_any x rx W)
            have HP : Hid (isLit v x = decide ((x.natAbs : Int) ≤ v)) := Lib.hid (by unfold isLit; rw [decide_eq_true h0]; rfl)
            obtain ⟨m, hm⟩ : ∃ m, Hid (x.natAbs = m) := ⟨_, Lib.hid rfl⟩
            rw [hm.out] at HM HP
            clear hm h0
            by_cases h6 : (m : Int) ≤ v
            · have H6 : Hid (R = if ((c.zs.drop (j + 1)).all (isLit v) && wiL v ((ct cs).drop (i + 1))) = false then 3 else if t = false then 10 else 0) := Lib.hid (by rw [H5.out, HP.out, decide_eq_true h6]; rfl)
              have h7 : ¬ v < (m : Int) := by omega
              clear H5 HP Z
              go_wp2_with fail
              go_quiet ((go_at_call 17; with_reducible exact quiet_of_same (HM.out _)))
              clear HM k0
              go_wp2_with fail
              go_roundw
              case rel => exact ⟨j + 1, by omega, by go_num, H6, Zh.out _⟩
              case measure => simp [intOf]; omega
            · have he0 : R = 3 := by rw [H5.out, HP.out, decide_eq_false h6]; rfl
              subst he0
              have h7 : v < (m : Int) := by omega
              clear H5 HP HCN HEQ HX HZ Z HCX
              go_wp2_with fail
              go_quiet ((go_at_call 17; with_reducible exact quiet_of_same (HM.out _)))
              clear HM k0
              go_wp2_with fail
              go_ret
              exact ⟨rfl, (g1.trans (HY.out.trans (Zh.out _))).bel⟩
        · obtain rfl : j = d := by omega
          have H5 : Hid (R = if wiL v ((ct cs).drop (i + 1)) = false then 3 else if t = false then 10 else 0) := Lib.hid (by rw [H4.out, List.drop_of_length_le (by rw [hd.out]; exact Nat.le_refl _)]; rfl)
          have Y2 := HY.out.trans Z
          clear H4 HZ
          go_wp2_with fail
          go_roundw
          case rel => exact ⟨i + 1, by omega, by go_num, H5, Y2⟩
          case measure => simp [intOf]; omega
    · obtain rfl : i = n := by omega
      have H5 : Hid (R = if t = false then 10 else 0) := Lib.hid (by
        rw [H1.out, List.drop_of_length_le (by rw [List.length_map, hn.out]; exact Nat.le_refl _)]; rfl)
      have X := (Gro.dr1 wr).bel
      have HB2 := Lib.hid (fun W (h : Below wr.heap.size wr W) => show W.cell? ⟨w.heap.size, 2, none⟩ = some (.slice A i ca) from ((HB.out _ Y).below h (HB.out _ Y).lt).c 2 rfl)
      have bw := (g1.trans Y).bel
      have HCN2 := Lib.hid (HCN.out _ (bTrans bw X))
      unfold NLL at HCN2
      clear H1 HX HCN
      go_upto_region 15 with (fail)
      go_region_held3 (fun w' => w'.cell? ⟨w.heap.size, 2, none⟩ = some (.slice A i ca))
        (exact HB2.out _ X)
        (first
          | (go_at_call 13; (with_reducible refine HCN2.out.mono ?_); rintro r w5 ⟨A2, c2, ds, rfl, q1, q2, q3⟩; replace X := bTrans X q3)
          | (go_at_call 14; (with_reducible refine (HEQ.out _ (bTrans bw X) A2 c2 ds q1 q2).mono ?_); rintro r w6 ⟨rfl, q4⟩; replace X := bTrans X q4.bel))
      have X2 := bTrans bw X
      clear HCN2 HEQ HB2 HB
      cases t with
      | false =>
        have hr : R = 10 := by rw [H5.out]; rfl
        subst hr
        clear H5
        go_wp2_with fail
        go_ret
        exact ⟨rfl, X2⟩
      | true =>
        have hr : R = 0 := by rw [H5.out]; rfl
        subst hr
        clear H5
        go_wp2_with fail
        go_ret
        exact ⟨rfl, X2⟩
end Go.Proofs.Ytdbboeknknlolaa
