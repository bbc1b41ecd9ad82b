/- Canonical of the package: its result lies in new memory. -/
import Derived.Test.YtdbboeknknlolaaW6
namespace Go.Proofs.Ytdbboeknknlolaa
open Go.RowKit Go.Sort
set_option linter.unusedVariables false

/-- a call hands back a list of clauses in new memory -/
def NLN (L : List (List Int)) (w : World) (r : Ending) (w' : World) : Prop :=
  ∃ A c ds, r = .returned (.slice A ds.length c) ∧ ct ds = L ∧ (RowS w' (New w) A (cvals ds) ∧ ∀ d ∈ ds, RowS w' (New w) d.ad (zvals d.zs)) ∧ LL w' w'.heap.size A ds ∧ Below w.heap.size w w'
/-- it stays where a block below turns -/
theorem LL.new_ {w W W' : World} {A : Option Addr} {ds : List Cl} {b : Nat} (h : LL W W.heap.size A ds) (hn : RowS W (New w) A (cvals ds) ∧ ∀ d ∈ ds, RowS W (New w) d.ad (zvals d.zs)) (hb : b < w.heap.size) (hk : ∀ q : Addr, q.block ≠ b → W'.cell? q = W.cell? q) (hs : W.heap.size ≤ W'.heap.size) : LL W' W'.heap.size A ds := by
  have key : ∀ {A : Option Addr} {xs : List Value}, RowS W (New w) A xs → Row W' W'.heap.size A xs := fun {A xs} hr => by
    have h2 : RowS W' (New w) A xs := hr.keep (fun p hp hl => hk p (by have : w.heap.size ≤ p.block := hp; omega)) (fun _ h _ => h) hs
    exact h2.row
  exact ⟨key hn.1, fun c hc => ⟨key (hn.2 c hc), (h.all c hc).rng, (h.all c hc).len⟩, h.len⟩
set_option maxRecDepth 100000 in
set_option maxHeartbeats 4000000 in
theorem canonP_new (st : Int → Bool) (cs : List Cl) (A : Option Addr) (ca : Nat) (w : World) (hx : LL w w.heap.size A cs) (hlx : cs.length ≤ 1000000) (hcx : ∀ c ∈ cs, c.zs.length ≤ 1000000)
    (hst : ∀ x, inI x → ∀ W, Below w.heap.size w W → Calls Try.prog 40 (#[.int .i64 x] ++ #[]) W fun e w' => e = .returned (.bool (st x)) ∧ W = w') :
    Calls Try.prog 39 #[.slice A cs.length ca, .func (.func 40) #[] #[]] w (NLN (canL ((ct cs).map fun z => z.filter st)) w) := by
  have X : CnI w w (.slice none 0 0) [] := ⟨World.ownsRow_nil _ _ _ _, fun _ h => absurd h (by simp), Below.refl _ _⟩
  have HX := Lib.hid (fun W (h : Below w.heap.size w W) => hx.below h)
  have HS := Lib.hid hst
  have HCX := Lib.hid hcx
  obtain ⟨i0, hi0, hz0, hz1, hz2⟩ := info_parts infoInt
  obtain ⟨j0, hj0, hy0, hy1, hy2⟩ := info_parts infoInts
  obtain ⟨n, hn⟩ : ∃ n, Hid (cs.length = n) := ⟨_, Lib.hid rfl⟩
  have HL0 : Hid (ct ([] : List Cl) = ((((ct cs).map fun z => z.filter st).take 0).map srtL).filter fun k => !taut k) := Lib.hid rfl
  rw [hn.out] at hlx ⊢
  clear hx hst hcx
  go_enter Try.func39, Try.ntmps39
  go_wp2_with fail
  go_loopw [5, 7, 8, 10, 13] (fun v5 v7 v8 v10 iv wr => ∃ i : Nat, i ≤ n ∧ iv = .int .i64 i ∧ ∃ l : List Cl, l.length ≤ i ∧ Hid (ct l = ((((ct cs).map fun z => z.filter st).take i).map srtL).filter fun k => !taut k) ∧ CnI w wr v5 l) (fun _ _ _ _ iv _ => n - (intOf iv).toNat)
  case atStart => exact ⟨0, Nat.zero_le _, rfl, [], Nat.le_refl _, HL0, X⟩
  case round =>
    clear X HL0
    obtain ⟨i, hi, rfl, l, hll, HLl, Y⟩ := hrel
    obtain ⟨A5, c5, rfl⟩ := own_slice_ Y.own
    by_cases hlt : i < n
    · obtain ⟨b, off, c, rfl, hb, c0, hci, zc⟩ := (HX.out _ Y.bel).at_ (show i < cs.length by rw [hn.out]; exact hlt)
      have hcl : c.zs.length ≤ 1000000 := HCX.out c (List.mem_of_getElem? hci)
      have hW0 := Y.bel.size
      have HN := Lib.hid (fun W (hb : Below wr.heap.size wr W) => Y.below hb)
      have HZ := Lib.hid (fun W (hb : Below wr.heap.size wr W) => zc.below (hb.mono hW0))
      have HSt := Lib.hid (fun x hx W (hb : Below wr.heap.size wr W) => HS.out x hx W (bTrans Y.bel hb))
      have HYn := Lib.hid (fun (w5 w8 : World) (v' : Value) (d : Cl) (o : Obj) (g cap : Nat) h1 h2 h3 h4 h5 h6 h7 h8 => CnI.next (w5 := w5) (w8 := w8) (v' := v') (d := d) (o := o) (g := g) (cap := cap) Y h1 h2 h3 h4 h5 h6 h7 h8)
      have hob : ∀ k, Value.ownBlock (.slice A5 l.length c5) = some k → k < wr.heap.size := fun k hk => (Y.lt hk).2
      have HOB := Lib.hid hob
      obtain ⟨m, hm⟩ : ∃ m, Hid (c.zs.length = m) := ⟨_, Lib.hid rfl⟩
      have Z0 : wr.ownsRow wr.heap.size 3 1 (.slice none 0 0) 0 (zvals []) ∧ Below wr.heap.size wr wr := ⟨World.ownsRow_nil _ _ _ _, Below.refl _ _⟩
      have HF0 : Hid (([] : List Int) = (c.zs.take 0).filter st) := Lib.hid rfl
      have HTK : Hid ((((ct cs).map fun z => z.filter st).take (i + 1)) = (((ct cs).map fun z => z.filter st).take i) ++ [c.zs.filter st]) := Lib.hid (by
        have hlen : i < ((ct cs).map fun z => z.filter st).length := by rw [List.length_map, List.length_map, hn.out]; exact hlt
        rw [List.take_succ_eq_append_getElem hlen]
        congr 1
        rw [List.getElem_map, List.getElem_map]
        have := (List.getElem?_eq_some_iff.1 hci).2
        rw [this])
      rw [hm.out] at c0 hcl
      clear Y zc hci hob
      go_wp2_with fail
      clear c0
      go_loopw [8, 10, 19] (fun v8 v10 jv ws => ∃ j : Nat, j ≤ m ∧ jv = .int .i64 j ∧ ∃ zs : List Int, zs.length ≤ j ∧ Hid (zs = (c.zs.take j).filter st) ∧ Hid (ws.ownsRow wr.heap.size 3 1 v8 zs.length (zvals zs)) ∧ Hid (Below wr.heap.size wr ws)) (fun _ _ jv _ => m - (intOf jv).toNat)
      case atStart => exact ⟨0, Nat.zero_le _, rfl, [], Nat.le_refl _, HF0, Lib.hid Z0.1, Lib.hid Z0.2⟩
      case round =>
        clear Z0 HF0
        obtain ⟨j, hj, rfl, zs, hzl, HF, HO, HB⟩ := hrel
        obtain ⟨A8, c8, rfl⟩ := own_slice_ HO.out
        have hbs := HB.out.size
        by_cases hjm : j < m
        · obtain ⟨b2, off2, x, hax, hb2, c1, hxi, rx⟩ := (HZ.out _ HB.out).at_ (show j < c.zs.length by rw [hm.out]; exact hjm)
          have HC := HSt.out x rx _ HB.out
          rw [hax]
          have HTk : Hid ((c.zs.take (j + 1)).filter st = (c.zs.take j).filter st ++ (if st x then [x] else [])) := Lib.hid (by
            obtain ⟨hjl, hje⟩ := List.getElem?_eq_some_iff.1 hxi
            rw [List.take_succ_eq_append_getElem hjl, List.filter_append, hje]
            cases hs : st x <;> simp [hs])
          obtain ⟨s, hs⟩ : ∃ s, Hid (st x = s) := ⟨_, Lib.hid rfl⟩
          rw [hs.out] at HC HTk
          have HCh := Lib.hid HC
          clear HC hxi rx hs hax
          go_wp2_with fail
          refine HCh.out.mono ?_
          rintro r w2 ⟨rfl, rfl⟩
          clear HCh c1
          cases s with
          | false =>
            have HF2 : Hid (zs = (c.zs.take (j + 1)).filter st) := Lib.hid (by rw [HTk.out, ← HF.out]; simp)
            clear HTk HF
            go_wp2_with fail
            go_roundw
            case rel => exact ⟨j + 1, by omega, by go_num, zs, by omega, HF2, HO, HB⟩
            case measure => simp [intOf]; omega
          | true =>
            have HF2 : Hid (zs ++ [x] = (c.zs.take (j + 1)).filter st) := Lib.hid (by rw [HTk.out, ← HF.out]; simp)
            clear HTk HF
            go_wp2_with (at_builtin; refine wpList_append_lies _ rfl _ _ 34 rfl _ 3 i0 (.int .i64 0) 1 8 Try.underlying34 hi0 hz0 hz1 hz2 rfl (by decide) (.slice A8 zs.length c8) zs.length (zvals zs) rfl (HO.out.alloc _) ⟨wr.heap.size, 0, none⟩ 1 1 [.int .i64 x] rfl rfl (cell_one_new _ _ _) (by intro u hu; simp at hu; subst hu; rfl) (by decide) (by unfold maxLen; omega) (by omega) (by rw [World.size_alloc]; omega) _ rfl ?_; intro g cap w8 hown8 hgrow hat hlt8)
            have HO2 : Hid (w8.ownsRow _ 3 1 (.slice (some ⟨g, 0, none⟩) (zs.length + 1) cap) (zs ++ [x]).length (zvals (zs ++ [x]))) := Lib.hid (by rw [zvals_snoc, List.length_append]; exact hown8)
            have HB2 := Lib.hid ((HB.out.alloc hbs (.cells #[.int .i64 x] 3)).grown hgrow (by rw [World.size_alloc]; omega) (fun k e => (HO.out.lt k e).1))
            have hzl2 : (zs ++ [x]).length ≤ j + 1 := by rw [List.length_append]; simp; omega
            clear hown8 hgrow hat HO HB
            go_wp2_with fail
            go_roundw
            case rel => exact ⟨j + 1, by omega, by go_num, zs ++ [x], hzl2, HF2, HO2, HB2⟩
            case measure => simp [intOf]; omega
        · obtain rfl : j = m := by omega
          have hzs : Hid (zs = c.zs.filter st) := Lib.hid (by rw [HF.out, List.take_of_length_le (by rw [hm.out]; exact Nat.le_refl _)])
          have hrng : ∀ x ∈ zs, inI x := fun x hx => by
            rw [hzs.out] at hx
            exact (HZ.out _ HB.out).rng x (List.mem_filter.1 hx).1
          have hz6 : zs.length ≤ 1000000 := by omega
          have HSO := Lib.hid (sortZ_gen 50 (fun _ _ => rfl) (fun x y hx hy W => lit_any x y hx hy W) _ _ _ zs _ HO.out hrng hz6)
          have hRN := Lib.hid hrng
          have HLT := Lib.hid (fun k e => (HO.out.lt k e).1)
          unfold SzP at HSO
          clear HF HZ HSt HO hrng hm
          go_wp2_with fail
          refine HSO.out.mono ?_
          rintro r w2 ⟨rfl, zs', hp, hso, hown2, hg2⟩
          have HB2 := HB.out.grown hg2 hbs (fun k e => HLT.out k e)
          have HCZ := Lib.hid (compactZ_any _ _ _ zs' _ hown2 hz6)
          have hcz : Lib.compact zs' = srtL zs := by rw [compact_srt litC_cmp (hso.imp fun h => Int.not_lt.2 h), srt_perm litC_cmp hp]
          have hzp : zs.length ≤ 1000000 := hz6
          obtain ⟨q, hq⟩ : ∃ q, Hid (Lib.compact zs' = q) := ⟨_, Lib.hid rfl⟩
          rw [hq.out] at hcz HCZ
          have hqr : ∀ x ∈ q, inI x := fun x hx => hRN.out x (by rw [hcz] at hx; exact (srt_mem litC_cmp x zs).1 hx)
          have hql : q.length ≤ 1000000 := by rw [hcz]; exact Nat.le_trans (srt_len zs) hz6
          have HQ : Hid (q = srtL (c.zs.filter st)) := Lib.hid (by rw [hcz, hzs.out])
          have HQR := Lib.hid hqr
          unfold CzP at HCZ
          clear hp hso hown2 hg2 hRN hcz hq hqr HSO HB hzs
          go_wp2_with fail
          refine HCZ.out.mono ?_
          rintro r w3 ⟨A9, c9, rfl, hrow, hg3⟩
          have HB3 := HB2.grown hg3 HB2.size (fun k e => HLT.out k e)
          have HT := Lib.hid (taut_any q A9 c9 w3 ⟨hrow.row, HQR.out, by omega⟩ hql)
          obtain ⟨tq, htq⟩ : ∃ t, Hid (taut q = t) := ⟨_, Lib.hid rfl⟩
          rw [htq.out] at HT
          clear hg3 HB2 HCZ HLT
          go_wp2_with fail
          refine HT.out.mono ?_
          rintro r w4 ⟨rfl, q4, rfl⟩
          have HB4 := Lib.hid (bDrew_ HB3 q4)
          have hrow4 : RowS (w3.drewN q4) _ A9 (zvals q) := hrow.keep (fun _ _ _ => rfl) (fun _ h _ => h) (Nat.le_refl _)
          clear HT hrow HB3
          cases tq with
          | true =>
            have HL2 : Hid (ct l = ((((ct cs).map fun z => z.filter st).take (i + 1)).map srtL).filter fun k => !taut k) := Lib.hid (by
              rw [HTK.out, List.map_append, List.filter_append, ← HLl.out]
              show ct l = ct l ++ List.filter _ [srtL (c.zs.filter st)]
              rw [← HQ.out, List.filter_cons_of_neg (by rw [htq.out]; simp)]; simp)
            have Y2 := HN.out _ HB4.out
            clear HTK HLl HQ HYn HN hrow4
            go_wp2_with fail
            go_roundw
            case rel => exact ⟨i + 1, by omega, by go_num, l, by omega, HL2, Y2⟩
            case measure => simp [intOf]; omega
          | false =>
            have HL2 : Hid (ct (l ++ [⟨A9, c9, q⟩]) = ((((ct cs).map fun z => z.filter st).take (i + 1)).map srtL).filter fun k => !taut k) := Lib.hid (by
              rw [HTK.out, List.map_append, List.filter_append, ← HLl.out]
              show List.map Cl.zs (l ++ [⟨A9, c9, q⟩]) = ct l ++ List.filter _ [srtL (c.zs.filter st)]
              rw [← HQ.out, List.filter_cons_of_pos (by rw [htq.out]; simp), List.map_append]; rfl)
            have ho4 := (HN.out _ HB4.out).own
            have hb4 := HB4.out.size
            have hbw := (HN.out _ HB4.out).bel.size
            have HR4 := Lib.hid hrow4
            clear HTK HLl HQ hrow4
            go_wp2_with (at_builtin; refine wpList_append_lies _ rfl _ _ 22 rfl w.heap.size 34 j0 (.slice none 0 0) 1 24 Try.underlying22 hj0 hy0 hy1 hy2 rfl (by decide) (.slice A5 l.length c5) l.length (cvals l) rfl (ho4.alloc _) ⟨w3.heap.size, 0, none⟩ 1 1 [.slice A9 q.length c9] rfl rfl (cell_one_new _ _ _) (by intro u hu; simp at hu; subst hu; rfl) (by decide) (by unfold maxLen; omega) (by omega) (by rw [World.size_alloc]; omega) _ rfl ?_; intro g cap w8 hown8 hgrow hat hlt8)
            have Y2 := HYn.out (w3.drewN q4) w8 (.slice (some ⟨g, 0, none⟩) (l.length + 1) cap) ⟨A9, c9, q⟩ (.cells #[.slice A9 q.length c9] 34) g cap HB4.out HR4.out HQR.out hql rfl hown8 hgrow hat
            have hll2 : (l ++ [(⟨A9, c9, q⟩ : Cl)]).length ≤ i + 1 := by rw [List.length_append]; simp; omega
            clear hown8 hgrow hat HYn HN ho4 HR4
            go_wp2_with fail
            go_roundw
            case rel => exact ⟨i + 1, by omega, by go_num, l ++ [⟨A9, c9, q⟩], hll2, HL2, Y2⟩
            case measure => simp [intOf]; omega
    · obtain rfl : i = n := by omega
      have hl6 : l.length ≤ 1000000 := by omega
      have HSC := Lib.hid (sortC_gen 53 (fun _ _ => rfl) (fun xs ys A B ca cb W hx hy h1 h2 => cmpfC_top xs ys A B ca cb W hx hy h1 h2) _ _ _ l _ Y.own Y.all hl6)
      have HA := Lib.hid Y.all
      have HLT := Lib.hid (fun k e => (Y.own.lt k e).1)
      have HBe := Lib.hid Y.bel
      have HC : Hid (srt clC (ct l) = canL ((ct cs).map fun z => z.filter st)) := Lib.hid (by
        unfold canL
        rw [HLl.out, List.take_of_length_le (by rw [List.length_map, List.length_map, hn.out]; exact Nat.le_refl _)])
      unfold ScP at HSC
      clear HLl Y HX HS HCX
      go_wp2_with fail
      refine HSC.out.mono ?_
      rintro r w2 ⟨rfl, l', hp, hso, hown2, hg2⟩
      have HB2 := HBe.out.grown hg2 HBe.out.size (fun k e => HLT.out k e)
      have HA2 := Lib.hid (fun c hc => (HA.out c (hp.mem_iff.1 hc)).grown hg2)
      have HCC := Lib.hid (compactP_any _ _ _ l' _ hown2 HA2.out hl6)
      have HC2 : Hid (Lib.compact (ct l') = canL ((ct cs).map fun z => z.filter st)) := Lib.hid (by rw [compact_srt clC_cmp (hso.imp fun h => Int.not_lt.2 h), srt_perm clC_cmp (hp.map Cl.zs)]; exact HC.out)
      have hpl := hp.length_eq
      unfold CcP at HCC
      clear HC HSC HA hp hso hown2 hg2 HBe
      go_wp2_with fail
      refine HCC.out.mono ?_
      rintro r w3 ⟨A9, c9, ds, rfl, hct, hrow, hmem, hg3⟩
      have HB3 := HB2.grown hg3 HB2.size (fun k e => HLT.out k e)
      have hlen : ds.length ≤ 1000000 := by
        have h1 : (ct ds).length ≤ (ct l').length := by rw [hct]; exact compact_len _
        rw [List.length_map, List.length_map] at h1
        omega
      have HLL : Hid (LL w3 w3.heap.size A9 ds) := Lib.hid ⟨hrow.row, fun d hd => ((HA2.out d (hmem d hd)).grown hg3).zs, by omega⟩
      have HNW : Hid (RowS w3 (New w) A9 (cvals ds) ∧ ∀ d ∈ ds, RowS w3 (New w) d.ad (zvals d.zs)) := Lib.hid ⟨hrow, fun d hd => ((HA2.out d (hmem d hd)).grown hg3).row.keep (fun _ _ _ => rfl) (fun _ h _ => h.1) (Nat.le_refl _)⟩
      have HE := Lib.hid (hct.trans HC2.out)
      clear HA2 hmem hrow hct HC2 hg3 HCC HB2 HLT
      go_wp2_with fail
      go_ret
      exact ⟨A9, c9, ds, rfl, HE.out, HNW.out, HLL.out, HB3⟩
theorem canonical_new (cs : List Cl) (A : Option Addr) (ca : Nat) (w : World) (hx : LL w w.heap.size A cs) (hlx : cs.length ≤ 1000000) (hcx : ∀ c ∈ cs, c.zs.length ≤ 1000000) :
    Calls Try.prog 15 #[.slice A cs.length ca] w (NLN (canL (ct cs)) w) := by
  have hst : ∀ x, inI x → ∀ W, Below w.heap.size w W → Calls Try.prog 40 (#[.int .i64 x] ++ #[]) W fun e w' => e = .returned (.bool ((fun _ : Int => true) x)) ∧ W = w' := fun x _ W _ => by
    show Calls Try.prog 40 #[.int .i64 x] W _
    go_enter Try.func40, Try.ntmps40
    go_wp2_with fail
    go_ret
    exact ⟨rfl, rfl⟩
  have H := canonP_new (fun _ => true) cs A ca w hx hlx hcx hst
  have e : (ct cs).map (fun z => z.filter fun _ => true) = ct cs := by
    have : (fun z : List Int => z.filter fun _ => true) = id := by funext z; simp
    rw [this, List.map_id]
  rw [e] at H
  have HH := Lib.hid H
  clear H e hst hx hcx
  unfold NLN at HH
  go_enter Try.func15, Try.ntmps15
  go_wp2_with fail
  refine HH.out.mono ?_
  rintro r w2 ⟨A2, c2, ds, rfl, h1, h0, h2, h3⟩
  clear HH
  go_wp2_with fail
  go_ret
  exact ⟨A2, c2, ds, rfl, h1, h0, h2, h3⟩
end Go.Proofs.Ytdbboeknknlolaa
