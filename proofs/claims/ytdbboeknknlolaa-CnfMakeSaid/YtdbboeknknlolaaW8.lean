/- Walks: Canonical and Residual of the law. -/
import Derived.Test.YtdbboeknknlolaaW7
namespace Go.Proofs.Ytdbboeknknlolaa
open Go.RowKit Go.Sort
set_option linter.unusedVariables false

theorem neg_in {x : Int} (h : inI x) : inI (neg x) := by unfold inI neg at *; split <;> omega
theorem neg_neg {x : Int} (h : inI x) : neg (neg x) = x := by
  unfold inI at h
  unfold neg
  by_cases e : x = -9223372036854775808
  · rw [if_pos e, if_pos e]
  · rw [if_neg e, if_neg (by omega)]; omega
theorem neg_zero {x : Int} (h : neg x = 0) : x = 0 := by unfold neg at h; split at h <;> omega
set_option maxRecDepth 100000 in
set_option maxHeartbeats 4000000 in
theorem lcanonical_any (cs : List Cl) (A : Option Addr) (ca : Nat) (w : World) (hx : LL w w.heap.size A cs) (hlx : cs.length ≤ 1000000) (hcx : ∀ c ∈ cs, c.zs.length ≤ 1000000) :
    Calls Try.prog 13 #[.slice A cs.length ca] w (NLL (canL (ct cs)) w) := by
  have X : CnI w (w.alloc (.cells #[] 34)) (.slice (some ⟨w.heap.size, 0, none⟩) 0 0) [] := ⟨World.ownsRow_made (e := 34) (size := 1) (base := w.heap.size) w #[] 0 (Nat.le_refl _) (by unfold maxLen; omega) rfl, fun _ h => absurd h (by simp), al1 _ _⟩
  have HX := Lib.hid (fun W (h : Below w.heap.size w W) => hx.below h)
  have HCX := Lib.hid hcx
  obtain ⟨j0, hj0, hy0, hy1, hy2⟩ := info_parts infoInts
  obtain ⟨n, hn⟩ : ∃ n, Hid (cs.length = n) := ⟨_, Lib.hid rfl⟩
  have HL0 : Hid (ct ([] : List Cl) = (((ct cs).take 0).map srtL).filter fun k => !taut k) := Lib.hid rfl
  rw [hn.out] at hlx ⊢
  clear hx hcx
  go_enter Try.func13, Try.ntmps13
  go_wp2_with fail
  go_loopw [3, 5, 6, 7, 8, 12] (fun v5 v7 v8 v9 v10 iv wr => ∃ i : Nat, i ≤ n ∧ iv = .int .i64 i ∧ ∃ l : List Cl, l.length ≤ i ∧ Hid (ct l = (((ct cs).take i).map srtL).filter fun k => !taut k) ∧ CnI w wr v5 l) (fun _ _ _ _ _ iv _ => n - (intOf iv).toNat)
  case atStart => exact ⟨0, Nat.zero_le _, rfl, [], Nat.le_refl _, HL0, X⟩
  case round =>
    clear X HL0
    obtain ⟨i, hi, rfl, l, hll, HLl, Y⟩ := hrel
    obtain ⟨A5, c5, rfl⟩ := own_slice_ Y.own
    by_cases hlt : i < n
    · obtain ⟨b, off, c, rfl, hb, c0, hci, zc⟩ := (HX.out _ Y.bel).at_ (show i < cs.length by rw [hn.out]; exact hlt)
      have hcl : c.zs.length ≤ 1000000 := HCX.out c (List.mem_of_getElem? hci)
      have hW0 := Y.bel.size
      have HN := Lib.hid (fun W (hb : Below wr.heap.size wr W) => Y.below hb)
      have HCLO := Lib.hid (clone_any c.zs c.ad c.cap wr (zc.more hW0) hcl)
      have HYn := Lib.hid (fun (w5 w8 : World) (v' : Value) (d : Cl) (o : Obj) (g cap : Nat) h1 h2 h3 h4 h5 h6 h7 h8 => CnI.next (w5 := w5) (w8 := w8) (v' := v') (d := d) (o := o) (g := g) (cap := cap) Y h1 h2 h3 h4 h5 h6 h7 h8)
      have hrng : ∀ x ∈ c.zs, inI x := zc.rng
      have HRN := Lib.hid hrng
      have HTK : Hid (((ct cs).take (i + 1)) = ((ct cs).take i) ++ [c.zs]) := Lib.hid (by
        have hlen : i < (ct cs).length := by rw [List.length_map, hn.out]; exact hlt
        rw [List.take_succ_eq_append_getElem hlen]
        congr 1
        rw [List.getElem_map]
        have := (List.getElem?_eq_some_iff.1 hci).2
        rw [this])
      unfold NewO at HCLO
      clear Y zc hci hrng
      go_wp2_with fail
      clear c0
      refine HCLO.out.mono ?_
      rintro r w2 ⟨A8, c8, rfl, hown1, hB1⟩
      have HSO := Lib.hid (sortZ_gen 32 (fun _ _ => rfl) (fun x y hx hy W => (llit_any x y hx hy W).mono fun e w' ⟨he, hd⟩ => ⟨he, hd.gro⟩) _ _ _ c.zs _ hown1 HRN.out hcl)
      have HLT := Lib.hid (fun k e => (hown1.lt k e).1)
      have HB := Lib.hid hB1
      unfold SzP at HSO
      clear hown1 hB1 HCLO
      go_wp2_with fail
      refine HSO.out.mono ?_
      rintro r w3 ⟨rfl, zs', hp, hso, hown2, hg2⟩
      have HB2 := Lib.hid (HB.out.grown hg2 HB.out.size (fun k e => HLT.out k e))
      have HCZ := Lib.hid (compactZ_any _ _ _ zs' _ hown2 hcl)
      have hcz : Lib.compact zs' = srtL c.zs := by rw [compact_srt litC_cmp (hso.imp fun h => Int.not_lt.2 h), srt_perm litC_cmp hp]
      obtain ⟨q, hq⟩ : ∃ q, Hid (Lib.compact zs' = q) := ⟨_, Lib.hid rfl⟩
      rw [hq.out] at hcz HCZ
      have hqr : ∀ x ∈ q, inI x := fun x hx => HRN.out x (by rw [hcz] at hx; exact (srt_mem litC_cmp x c.zs).1 hx)
      have hql : q.length ≤ 1000000 := by rw [hcz]; exact Nat.le_trans (srt_len c.zs) hcl
      have HQ : Hid (q = srtL c.zs) := Lib.hid hcz
      have HQS : Hid (q.Pairwise (fun a b => litC a b < 0)) := Lib.hid (by rw [hcz]; exact srt_sorted litC_cmp _)
      have HQR := Lib.hid hqr
      unfold CzP at HCZ
      clear hp hso hown2 hg2 HRN hcz hq hqr HSO HB
      go_wp2_with fail
      refine HCZ.out.mono ?_
      rintro r w4 ⟨A9, c9, rfl, hrow, hg3⟩
      have HB3 := Lib.hid (HB2.out.grown hg3 HB2.out.size (fun k e => HLT.out k e))
      have HRow := Lib.hid hrow
      have HZq := Lib.hid (show Zs w4 w4.heap.size A9 q from ⟨hrow.row, HQR.out, by omega⟩)
      obtain ⟨e, he⟩ : ∃ e, Hid (taut q = e) := ⟨_, Lib.hid rfl⟩
      obtain ⟨m, hm⟩ : ∃ m, Hid (q.length = m) := ⟨_, Lib.hid rfl⟩
      have HT0 : Hid ((false || taut (q.drop (0 - 1))) = e) := Lib.hid (by rw [Bool.false_or]; exact he.out)
      have HD0 := Dr.refl w4
      rw [hm.out] at hql ⊢
      clear hg3 HB2 HCZ HLT hrow
      go_wp2_with fail
      go_loopw [7, 8, 24] (fun dv v8 jv ws => ∃ (j : Nat) (d : Bool), j ≤ m ∧ jv = .int .i64 j ∧ dv = .bool d ∧ Hid ((d || taut (q.drop (j - 1))) = e) ∧ Dr w4 ws) (fun _ _ jv _ => m - (intOf jv).toNat)
      case atStart => exact ⟨0, false, Nat.zero_le _, rfl, rfl, HT0, HD0⟩
      case round =>
        clear HT0 HD0
        obtain ⟨j, d, hj, rfl, rfl, HT, D⟩ := hrel
        by_cases hjm : j < m
        · have Dh := Lib.hid (fun q => D.trans (Dr.dr _ q))
          cases d with
          | true =>
            have HT2 : Hid ((true || taut (q.drop (j + 1 - 1))) = e) := Lib.hid (by rw [← HT.out]; rfl)
            clear HT D
            go_wp2_with fail
            go_quiet (fail)
            go_wp2_with fail
            go_roundw
            case rel => exact ⟨j + 1, true, by omega, by go_num, rfl, HT2, Dh.out _⟩
            case measure => simp [intOf]; omega
          | false =>
            by_cases h0 : j = 0
            · subst h0
              clear D
              go_wp2_with fail
              go_quiet (fail)
              go_wp2_with fail
              go_roundw
              case rel => exact ⟨1, false, by omega, rfl, rfl, HT, Dh.out _⟩
              case measure => simp [intOf]; omega
            · obtain ⟨k, hk⟩ : ∃ k, Hid (j = k + 1) := ⟨j - 1, Lib.hid (by omega)⟩
              have hkI : IntKind.i64.wrap ((j : Int) - 1) = (k : Int) := by
                have := hk.out
                rw [IntWalk.i64_in _ (by omega)]; omega
              have hkm : k < m := by have := hk.out; omega
              have hpos : 0 < j := by omega
              have zq := HZq.out.at D.bel
              obtain ⟨b2, off2, y, hA2, hb2, c1, hyi, ry⟩ := zq.at_ (show j < q.length by rw [hm.out]; exact hjm)
              obtain ⟨b3, off3, x, hA3, hb3, c0, hxi, rx⟩ := zq.at_ (show k < q.length by rw [hm.out]; exact hkm)
              rw [hA2] at hA3
              obtain ⟨rfl, rfl⟩ : b2 = b3 ∧ off2 = off3 := by simpa using hA3
              have hA2h := Lib.hid hA2
              have hlt2 : litC x y < 0 := by
                obtain ⟨g1, g2⟩ := List.getElem?_eq_some_iff.1 hxi
                obtain ⟨g3, g4⟩ := List.getElem?_eq_some_iff.1 hyi
                have := (List.pairwise_iff_getElem.1 HQS.out) k j g1 g3 (by have := hk.out; omega)
                rwa [g2, g4] at this
              have hxy : x ≠ y := fun e => by rw [e] at hlt2; exact litC_cmp.irr y hlt2
              have hw := neg_wrap rx
              have ht : (decide (x = neg y) || taut (q.drop j)) = e := by
                rw [← HT.out, Bool.false_or, show j - 1 = k by have := hk.out; omega]
                rw [hk.out] at hyi ⊢
                exact (taut_drop hxi hyi).symm
              have hyx : decide (x = neg y) = decide (y = neg x) := by
                rw [decide_eq_decide]
                constructor
                · intro h; rw [h, neg_neg ry]
                · intro h; rw [h, neg_neg rx]
              rw [hyx] at ht
              have hy0 : y = neg x → y ≠ 0 := fun h h0 => by
                have hx0 : x = 0 := neg_zero (h.symm.trans h0)
                exact hxy (by rw [hx0, h0])
              have HT1 := Lib.hid ht
              have HY0 := Lib.hid hy0
              obtain ⟨nx, hnx⟩ : ∃ z, Hid (neg x = z) := ⟨_, Lib.hid rfl⟩
              rw [hnx.out] at hw HT1 HY0
              have q1 : (x != y) = true := by simpa using hxy
              rw [hA2]
              by_cases hyn : y = nx
              · have HT2 : Hid ((true || taut (q.drop (j + 1 - 1))) = e) := Lib.hid (by rw [← HT1.out, decide_eq_true hyn]; rfl)
                have q2 : (y == nx) = true := by simpa using hyn
                have q3 : (y != 0) = true := by simpa using HY0.out hyn
                clear HT D ht hy0 HY0 hyx hnx hlt2 hxy hyi hxi rx ry hA2 hA3 zq hk HT1 hyn
                go_wp2_with fail
                go_quiet (fail)
                go_wp2_with fail
                go_roundw
                case rel => exact ⟨j + 1, true, by omega, by go_num, rfl, HT2, Dh.out _⟩
                case measure => simp [intOf]; omega
              · have HT2 : Hid ((false || taut (q.drop (j + 1 - 1))) = e) := Lib.hid (by rw [← HT1.out, decide_eq_false hyn]; rfl)
                have q2 : (y == nx) = false := by simpa using hyn
                clear HT D ht hy0 HY0 hyx hnx hlt2 hxy hyi hxi rx ry hA2 hA3 zq hk HT1 hyn
                go_wp2_with fail
                go_quiet (fail)
                go_wp2_with fail
                go_roundw
                case rel => exact ⟨j + 1, false, by omega, by go_num, rfl, HT2, Dh.out _⟩
                case measure => simp [intOf]; omega
        · obtain rfl : j = m := by omega
          have hed : Hid (taut q = d) := Lib.hid (by rw [he.out, ← HT.out, taut_end (by rw [hm.out]; omega), Bool.or_false])
          obtain ⟨q4, rfl⟩ := D
          have HB4 := Lib.hid (bDrew_ HB3.out q4)
          have hrow4 : RowS (w4.drewN q4) _ A9 (zvals q) := HRow.out.keep (fun _ _ _ => rfl) (fun _ h _ => h) (Nat.le_refl _)
          clear HT HB3 HRow HZq he
          cases d with
          | true =>
            have HL2 : Hid (ct l = (((ct cs).take (i + 1)).map srtL).filter fun k => !taut k) := Lib.hid (by
              rw [HTK.out, List.map_append, List.filter_append, ← HLl.out]
              show ct l = ct l ++ List.filter _ [srtL c.zs]
              rw [← HQ.out, List.filter_cons_of_neg (by rw [hed.out]; simp)]; simp)
            have Y2 := HN.out _ HB4.out
            clear HTK HLl HQ HYn HN hrow4
            go_wp2_with fail
            go_roundw
            case rel => exact ⟨i + 1, by omega, by go_num, l, by omega, HL2, Y2⟩
            case measure => simp [intOf]; omega
          | false =>
            have HL2 : Hid (ct (l ++ [⟨A9, c9, q⟩]) = (((ct cs).take (i + 1)).map srtL).filter fun k => !taut k) := Lib.hid (by
              rw [HTK.out, List.map_append, List.filter_append, ← HLl.out]
              show List.map Cl.zs (l ++ [⟨A9, c9, q⟩]) = ct l ++ List.filter _ [srtL c.zs]
              rw [← HQ.out, List.filter_cons_of_pos (by rw [hed.out]; simp), List.map_append]; rfl)
            have ho4 := (HN.out _ HB4.out).own
            have hb4 := HB4.out.size
            have hbw := (HN.out _ HB4.out).bel.size
            have HR4 := Lib.hid hrow4
            have hqj : Hid (q.length = j) := hm
            clear HTK HLl HQ hrow4
            go_wp2_with (at_builtin; refine wpList_append_lies _ rfl _ _ 22 rfl w.heap.size 34 j0 (.slice none 0 0) 1 24 Try.underlying22 hj0 hy0 hy1 hy2 rfl (by decide) (.slice A5 l.length c5) l.length (cvals l) rfl (ho4.alloc _) ⟨w4.heap.size, 0, none⟩ 1 1 [.slice A9 j c9] rfl rfl (cell_one_new _ _ _) (by intro u hu; simp at hu; subst hu; rfl) (by decide) (by unfold maxLen; omega) (by omega) (by rw [World.size_alloc]; omega) _ rfl ?_; intro g cap w8 hown8 hgrow hat hlt8)
            have Y2 := HYn.out (w4.drewN q4) w8 (.slice (some ⟨g, 0, none⟩) (l.length + 1) cap) ⟨A9, c9, q⟩ (.cells #[.slice A9 j c9] 34) g cap HB4.out HR4.out HQR.out (by rw [hqj.out]; exact hql) rfl (by show w8.ownsRow _ _ _ _ _ (cvals l ++ [.slice A9 q.length c9]); rw [hqj.out]; exact hown8) hgrow hat
            have hll2 : (l ++ [(⟨A9, c9, q⟩ : Cl)]).length ≤ i + 1 := by rw [List.length_append]; simp; omega
            clear hown8 hgrow hat HYn HN ho4 HR4
            go_wp2_with fail
            go_roundw
            case rel => exact ⟨i + 1, by omega, by go_num, l ++ [⟨A9, c9, q⟩], hll2, HL2, Y2⟩
            case measure => simp [intOf]; omega
    · obtain rfl : i = n := by omega
      have hl6 : l.length ≤ 1000000 := by omega
      have HSC := Lib.hid (sortC_gen 35 (fun _ _ => rfl) (fun xs ys A B ca cb W hx hy h1 h2 => (cmpfL_top xs ys A B ca cb W hx hy h1 h2).mono fun e w' ⟨he, hd⟩ => ⟨he, hd.gro⟩) _ _ _ l _ Y.own Y.all hl6)
      have HA := Lib.hid Y.all
      have HLT := Lib.hid (fun k e => (Y.own.lt k e).1)
      have HBe := Lib.hid Y.bel
      have HC : Hid (srt clC (ct l) = canL (ct cs)) := Lib.hid (by
        unfold canL
        rw [HLl.out, List.take_of_length_le (by rw [List.length_map, hn.out]; exact Nat.le_refl _)])
      unfold ScP at HSC
      clear HLl Y HX HCX
      go_wp2_with fail
      refine HSC.out.mono ?_
      rintro r w2 ⟨rfl, l', hp, hso, hown2, hg2⟩
      have HB2 := HBe.out.grown hg2 HBe.out.size (fun k e => HLT.out k e)
      have HA2 := Lib.hid (fun c hc => (HA.out c (hp.mem_iff.1 hc)).grown hg2)
      have HCC := Lib.hid (compactM_any _ _ _ l' _ hown2 HA2.out hl6)
      have HC2 : Hid (Lib.compact (ct l') = canL (ct cs)) := Lib.hid (by rw [compact_srt clC_cmp (hso.imp fun h => Int.not_lt.2 h), srt_perm clC_cmp (hp.map Cl.zs)]; exact HC.out)
      have hpl := hp.length_eq
      unfold CcP at HCC
      clear HC HSC HA hp hso hown2 hg2 HBe
      go_wp2_with fail
      refine HCC.out.mono ?_
      rintro r w3 ⟨A9, c9, ds, rfl, hct, hrow, hmem, hg3⟩
      have HB3 := HB2.grown hg3 HB2.size (fun k e => HLT.out k e)
      have hlen : ds.length ≤ 1000000 := by
        have h1 : (ct ds).length ≤ (ct l').length := by rw [hct]; exact compact_len _
        rw [List.length_map, List.length_map] at h1
        omega
      have HLL : Hid (LL w3 w3.heap.size A9 ds) := Lib.hid ⟨hrow.row, fun d hd => ((HA2.out d (hmem d hd)).grown hg3).zs, by omega⟩
      have HE := Lib.hid (hct.trans HC2.out)
      clear HA2 hmem hrow hct HC2 hg3 HCC HB2 HLT
      go_wp2_with fail
      go_ret
      exact ⟨A9, c9, ds, rfl, HE.out, HLL.out, HB3⟩
set_option maxRecDepth 100000 in
set_option maxHeartbeats 4000000 in
theorem lresidual_any (cs : List Cl) (x : Int) (A : Option Addr) (ca : Nat) (w : World) (hx : LL w w.heap.size A cs) (rx : inI x) (hlx : cs.length ≤ 1000000) (hcx : ∀ c ∈ cs, c.zs.length ≤ 1000000) :
    Calls Try.prog 23 #[.slice A cs.length ca, .int .i64 x] w (NLL (resL (ct cs) x) w) := by
  have X : CnI w (w.alloc (.cells #[] 34)) (.slice (some ⟨w.heap.size, 0, none⟩) 0 0) [] := ⟨World.ownsRow_made (e := 34) (size := 1) (base := w.heap.size) w #[] 0 (Nat.le_refl _) (by unfold maxLen; omega) rfl, fun _ h => absurd h (by simp), al1 _ _⟩
  have HX := Lib.hid (fun W (h : Below w.heap.size w W) => hx.below h)
  have HCX := Lib.hid hcx
  obtain ⟨i0, hi0, hz0, hz1, hz2⟩ := info_parts infoInt
  obtain ⟨j0, hj0, hy0, hy1, hy2⟩ := info_parts infoInts
  obtain ⟨n, hn⟩ : ∃ n, Hid (cs.length = n) := ⟨_, Lib.hid rfl⟩
  have HL0 : Hid (ct ([] : List Cl) = (((ct cs).take 0).filter fun z => !decide (x ∈ z)).map fun z => z.filter fun y => !decide (y = neg x)) := Lib.hid rfl
  have HW := Lib.hid (neg_wrap rx)
  rw [hn.out] at hlx ⊢
  clear hx hcx
  go_enter Try.func23, Try.ntmps23
  go_wp2_with fail
  go_loopw [5, 7, 8, 10, 14] (fun v5 v7 v8 v10 iv wr => ∃ i : Nat, i ≤ n ∧ iv = .int .i64 i ∧ ∃ l : List Cl, l.length ≤ i ∧ Hid (ct l = (((ct cs).take i).filter fun z => !decide (x ∈ z)).map fun z => z.filter fun y => !decide (y = neg x)) ∧ CnI w wr v5 l) (fun _ _ _ _ iv _ => n - (intOf iv).toNat)
  case atStart => exact ⟨0, Nat.zero_le _, rfl, [], Nat.le_refl _, HL0, X⟩
  case round =>
    clear X HL0
    obtain ⟨i, hi, rfl, l, hll, HLl, Y⟩ := hrel
    obtain ⟨A5, c5, rfl⟩ := own_slice_ Y.own
    by_cases hlt : i < n
    · obtain ⟨b, off, c, rfl, hb, c0, hci, zc⟩ := (HX.out _ Y.bel).at_ (show i < cs.length by rw [hn.out]; exact hlt)
      have hcl : c.zs.length ≤ 1000000 := HCX.out c (List.mem_of_getElem? hci)
      have hW0 := Y.bel.size
      have HN := Lib.hid (fun W (hb : Below wr.heap.size wr W) => Y.below hb)
      have HZ := Lib.hid (fun W (hb : Below wr.heap.size wr W) => zc.below (hb.mono hW0))
      have HC := Lib.hid (contains_any c.zs x c.ad c.cap wr (zc.more hW0) hcl)
      have HYn := Lib.hid (fun (w5 w8 : World) (v' : Value) (d : Cl) (o : Obj) (g cap : Nat) h1 h2 h3 h4 h5 h6 h7 h8 => CnI.next (w5 := w5) (w8 := w8) (v' := v') (d := d) (o := o) (g := g) (cap := cap) Y h1 h2 h3 h4 h5 h6 h7 h8)
      obtain ⟨m, hm⟩ : ∃ m, Hid (c.zs.length = m) := ⟨_, Lib.hid rfl⟩
      have HTK : Hid ((((ct cs).take (i + 1)).filter fun z => !decide (x ∈ z)) = (((ct cs).take i).filter fun z => !decide (x ∈ z)) ++ (if decide (x ∈ c.zs) then [] else [c.zs])) := Lib.hid (by
        have hlen : i < (ct cs).length := by rw [List.length_map, hn.out]; exact hlt
        rw [List.take_succ_eq_append_getElem hlen, List.filter_append]
        have h1 := (List.getElem?_eq_some_iff.1 hci).2
        have h2 : (ct cs)[i] = c.zs := by rw [List.getElem_map, h1]
        rw [h2]
        cases hs : decide (x ∈ c.zs) <;> simp [hs])
      obtain ⟨s, hs⟩ : ∃ s, Hid (decide (x ∈ c.zs) = s) := ⟨_, Lib.hid rfl⟩
      rw [hs.out] at HC HTK
      rw [hm.out] at c0 hcl HC
      clear Y zc hci hs
      go_wp2_with fail
      refine HC.out.mono ?_
      rintro r w2 ⟨rfl, q2, rfl⟩
      have HB1 := Lib.hid (bDrew_ (Below.refl wr.heap.size wr) q2)
      clear HC c0
      cases s with
      | true =>
        have HL2 : Hid (ct l = (((ct cs).take (i + 1)).filter fun z => !decide (x ∈ z)).map fun z => z.filter fun y => !decide (y = neg x)) := Lib.hid (by rw [HTK.out, HLl.out]; simp)
        have Y2 := HN.out _ HB1.out
        clear HTK HLl HN HYn HZ
        go_wp2_with fail
        go_roundw
        case rel => exact ⟨i + 1, by omega, by go_num, l, by omega, HL2, Y2⟩
        case measure => simp [intOf]; omega
      | false =>
        have HL2 : Hid (ct l ++ [c.zs.filter fun y => !decide (y = neg x)] = (((ct cs).take (i + 1)).filter fun z => !decide (x ∈ z)).map fun z => z.filter fun y => !decide (y = neg x)) := Lib.hid (by rw [HTK.out, HLl.out]; simp)
        have Z0 : ((wr.drewN q2).alloc (.cells #[] 3)).ownsRow wr.heap.size 3 1 (.slice (some ⟨wr.heap.size, 0, none⟩) 0 0) 0 (zvals []) := World.ownsRow_made (e := 3) (size := 1) (base := wr.heap.size) (wr.drewN q2) #[] 0 (Nat.le_refl _) (by unfold maxLen; omega) rfl
        have Z1 : Below wr.heap.size wr ((wr.drewN q2).alloc (.cells #[] 3)) := HB1.out.alloc (Nat.le_refl _) _
        have HF0 : Hid (([] : List Int) = (c.zs.take 0).filter fun y => !decide (y = neg x)) := Lib.hid rfl
        clear HTK HLl
        go_wp2_with fail
        go_loopw [8, 10, 24] (fun v8 v10 jv ws => ∃ j : Nat, j ≤ m ∧ jv = .int .i64 j ∧ ∃ zs : List Int, zs.length ≤ j ∧ Hid (zs = (c.zs.take j).filter fun y => !decide (y = neg x)) ∧ Hid (ws.ownsRow wr.heap.size 3 1 v8 zs.length (zvals zs)) ∧ Hid (Below wr.heap.size wr ws)) (fun _ _ jv _ => m - (intOf jv).toNat)
        case atStart => exact ⟨0, Nat.zero_le _, rfl, [], Nat.le_refl _, HF0, Lib.hid Z0, Lib.hid Z1⟩
        case round =>
          clear Z0 Z1 HF0 HB1
          obtain ⟨j, hj, rfl, zs, hzl, HF, HO, HB⟩ := hrel
          obtain ⟨A8, c8, rfl⟩ := own_slice_ HO.out
          have hbs := HB.out.size
          by_cases hjm : j < m
          · obtain ⟨b2, off2, y, hax, hb2, c1, hxi, ry⟩ := (HZ.out _ HB.out).at_ (show j < c.zs.length by rw [hm.out]; exact hjm)
            rw [hax]
            have hax2 := Lib.hid hax
            have HTk : Hid ((c.zs.take (j + 1)).filter (fun y => !decide (y = neg x)) = (c.zs.take j).filter (fun y => !decide (y = neg x)) ++ (if y = neg x then [] else [y])) := Lib.hid (by
              obtain ⟨hjl, hje⟩ := List.getElem?_eq_some_iff.1 hxi
              rw [List.take_succ_eq_append_getElem hjl, List.filter_append, hje]
              by_cases h : y = neg x <;> simp [h])
            have hw := HW.out
            obtain ⟨nx, hnx⟩ : ∃ z, Hid (neg x = z) := ⟨_, Lib.hid rfl⟩
            rw [hnx.out] at hw HTk
            by_cases hyn : y = nx
            · have q : (y != nx) = false := by simpa using hyn
              have HF2 : Hid (zs = (c.zs.take (j + 1)).filter fun y => !decide (y = neg x)) := Lib.hid (by rw [hnx.out, HTk.out, if_pos hyn, List.append_nil, ← hnx.out]; exact HF.out)
              clear HTk HF hxi ry hax hyn hnx
              go_wp2_with fail
              go_roundw
              case rel => exact ⟨j + 1, by omega, by go_num, zs, by omega, HF2, HO, HB⟩
              case measure => simp [intOf]; omega
            · have q : (y != nx) = true := by simpa using hyn
              have HF2 : Hid (zs ++ [y] = (c.zs.take (j + 1)).filter fun y => !decide (y = neg x)) := Lib.hid (by rw [hnx.out, HTk.out, if_neg hyn, ← hnx.out, ← HF.out])
              clear HTk HF hxi ry hax hyn hnx
              go_wp2_with (at_builtin; refine wpList_append_lies _ rfl _ _ 34 rfl _ 3 i0 (.int .i64 0) 1 8 Try.underlying34 hi0 hz0 hz1 hz2 rfl (by decide) (.slice A8 zs.length c8) zs.length (zvals zs) rfl (HO.out.alloc _) ⟨wr.heap.size, 0, none⟩ 1 1 [.int .i64 y] rfl rfl (cell_one_new _ _ _) (by intro u hu; simp at hu; subst hu; rfl) (by decide) (by unfold maxLen; omega) (by omega) (by rw [World.size_alloc]; omega) _ rfl ?_; intro g cap w8 hown8 hgrow hat hlt8)
              have HO2 : Hid (w8.ownsRow _ 3 1 (.slice (some ⟨g, 0, none⟩) (zs.length + 1) cap) (zs ++ [y]).length (zvals (zs ++ [y]))) := Lib.hid (by rw [zvals_snoc, List.length_append]; exact hown8)
              have HB2 := Lib.hid ((HB.out.alloc hbs (.cells #[.int .i64 y] 3)).grown hgrow (by rw [World.size_alloc]; omega) (fun k e => (HO.out.lt k e).1))
              have hzl2 : (zs ++ [y]).length ≤ j + 1 := by rw [List.length_append]; simp; omega
              clear hown8 hgrow hat HO HB
              go_wp2_with fail
              go_roundw
              case rel => exact ⟨j + 1, by omega, by go_num, zs ++ [y], hzl2, HF2, HO2, HB2⟩
              case measure => simp [intOf]; omega
          · obtain rfl : j = m := by omega
            have hzs : Hid (zs = c.zs.filter fun y => !decide (y = neg x)) := Lib.hid (by rw [HF.out, List.take_of_length_le (by rw [hm.out]; exact Nat.le_refl _)])
            have hrng : ∀ y ∈ zs, inI y := fun y hy => by
              rw [hzs.out] at hy
              exact (HZ.out _ HB.out).rng y (List.mem_filter.1 hy).1
            have HRNG := Lib.hid hrng
            have HL3 : Hid (ct (l ++ [⟨A8, c8, zs⟩]) = (((ct cs).take (i + 1)).filter fun z => !decide (x ∈ z)).map fun z => z.filter fun y => !decide (y = neg x)) := Lib.hid (by
              rw [← HL2.out, ← hzs.out]
              show List.map Cl.zs (l ++ [⟨A8, c8, zs⟩]) = _
              rw [List.map_append]; rfl)
            have hrow := RowS.of_own HO.out (by decide)
            have HR4 := Lib.hid hrow
            have ho4 := (HN.out _ HB.out).own
            have hbw := (HN.out _ HB.out).bel.size
            clear HF HZ hrng HL2 hzs hrow HO
            go_wp2_with (at_builtin; refine wpList_append_lies _ rfl _ _ 22 rfl w.heap.size 34 j0 (.slice none 0 0) 1 24 Try.underlying22 hj0 hy0 hy1 hy2 rfl (by decide) (.slice A5 l.length c5) l.length (cvals l) rfl (ho4.alloc _) ⟨wr.heap.size, 0, none⟩ 1 1 [.slice A8 zs.length c8] rfl rfl (cell_one_new _ _ _) (by intro u hu; simp at hu; subst hu; rfl) (by decide) (by unfold maxLen; omega) (by omega) (by rw [World.size_alloc]; omega) _ rfl ?_; intro g cap w8 hown8 hgrow hat hlt8)
            have Y2 := HYn.out wr w8 (.slice (some ⟨g, 0, none⟩) (l.length + 1) cap) ⟨A8, c8, zs⟩ (.cells #[.slice A8 zs.length c8] 34) g cap HB.out HR4.out HRNG.out (by show zs.length ≤ 1000000; omega) rfl hown8 hgrow hat
            have hll2 : (l ++ [(⟨A8, c8, zs⟩ : Cl)]).length ≤ i + 1 := by rw [List.length_append]; simp; omega
            clear hown8 hgrow hat HYn HN ho4 HR4
            go_wp2_with fail
            go_roundw
            case rel => exact ⟨i + 1, by omega, by go_num, l ++ [⟨A8, c8, zs⟩], hll2, HL3, Y2⟩
            case measure => simp [intOf]; omega
    · obtain rfl : i = n := by omega
      have HE : Hid (canL (ct l) = resL (ct cs) x) := Lib.hid (by
        unfold resL
        rw [HLl.out, List.take_of_length_le (by rw [List.length_map, hn.out]; exact Nat.le_refl _)])
      have hrow := RowS.of_own Y.own (by decide)
      have hL : LL wr wr.heap.size A5 l := ⟨hrow.row, fun c hc => (Y.all c hc).zs, by omega⟩
      have H := lcanonical_any l A5 c5 wr hL (by omega) (fun c hc => (Y.all c hc).len)
      rw [HE.out] at H
      have HH := Lib.hid H
      have hbel := Y.bel
      unfold NLL at HH
      clear H HE hrow hL HLl Y HX HCX
      go_wp2_with fail
      refine HH.out.mono ?_
      rintro r w2 ⟨A2, c2, ds, rfl, h1, h2, h3⟩
      have h4 := bTrans hbel h3
      clear HH h3
      go_wp2_with fail
      go_ret
      exact ⟨A2, c2, ds, rfl, h1, h2, h4⟩
end Go.Proofs.Ytdbboeknknlolaa
