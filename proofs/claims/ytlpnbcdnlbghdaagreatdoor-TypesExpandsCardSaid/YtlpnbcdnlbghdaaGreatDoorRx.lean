/- Walks: expand, Known, Expand of the reference of types. -/
import Derived.Test.YtlpnbcdnlbghdaaGreatDoorRq
import Derived.Test.YtlpnbcdnlbghdaaGreatDoorRi
namespace Go.Proofs.YtlpnbcdnlbghdaaGreatDoor
open Go.RowKit Go.Sort
set_option linter.unusedVariables false

/-- what expand leaves -/
def RxP (S : Nat → Prop) (y : G × Int) (w : World) (r : Ending) (w' : World) : Prop :=
  ∃ x : G, r = .returned (.tuple #[x.val, .int .i64 y.2]) ∧ G.InS w' (SN S w) x ∧ x.bare = y.1 ∧ Below w.heap.size w w'
theorem G.InS.sub {w : World} {S S' : Nat → Prop} {e : G} (h : G.InS w S e) (hs : ∀ b, S b → S' b) : G.InS w S' e := h.keep (fun _ _ _ => rfl) (fun b hb _ => hs b hb) (Nat.le_refl _)
theorem ex_four {p : Prop} [Decidable p] (y : G × Int) (h : p) : (if (if p then (4 : Int) else 0) ≠ 0 then (G.zero, if p then (4 : Int) else 0) else y) = (G.zero, 4) := by rw [if_pos h, if_pos (by decide)]
theorem ex_none {p : Prop} [Decidable p] (y : G × Int) (h : ¬ p) : (if (if p then (4 : Int) else 0) ≠ 0 then (G.zero, if p then (4 : Int) else 0) else y) = y := by rw [if_neg h, if_neg (by decide)]
set_option maxRecDepth 100000 in
set_option maxHeartbeats 4000000 in
theorem rexpand_any (ks : List Dc) (e : G) (S : Nat → Prop) (A : Option Addr) (c0 : Nat) (w : World) (hB : ∀ b, S b → b < w.heap.size) (hl : Dc.L w w.heap.size A ks) (hts : ∀ d ∈ ks, G.InS w S d.t) (hV : G.VS nmB (sco ks)) (hin : G.InS w S e) (hnod : e.nodes ≤ 1000000) :
    Calls Tryz.prog 50 #[.slice A ks.length c0, e.val] w (RxP S (G.expT nmB (sco ks) e) w) := by
  have X := AnZ.start w e 26 26
  have C1 := Lib.hid (fun W (i : AnZ w W e) => xcheck_any e W (G.InS.in_ _ (hin.below i.bel)) hnod)
  have C2 := Lib.hid (fun (ok : G.Ok nmB e) W (i : AnZ w W e) => rreplace_any ks e S A c0 W (fun b h => Nat.lt_of_lt_of_le (hB b h) i.bel.size) (hl.at i.bel) (fun d hd => (hts d hd).below i.bel) (hin.below i.bel) ok.mal hnod)
  have HE : Hid (G.expT nmB (sco ks) e = if G.chk nmB e ≠ 0 then (G.zero, G.chk nmB e) else if e.any (G.unk (sco ks)) then (G.zero, 7) else if G.exC (G.repl (sco ks) e) ≠ 0 then (G.zero, G.exC (G.repl (sco ks) e)) else (G.repl (sco ks) e, 0)) := Lib.hid rfl
  have HK : Hid (G.chk nmB e = 0 → G.Ok nmB e) := Lib.hid G.chk_ok.1
  have HS3 := Lib.hid (fun (ok : G.Ok nmB e) (hu : e.any (G.unk (sco ks)) = false) => G.repl_sm hV ok hu)
  obtain ⟨c, hc⟩ : ∃ c, Hid (G.chk nmB e = c) := ⟨_, Lib.hid rfl⟩
  rw [hc.out] at C1 HE HK
  obtain ⟨y, hy⟩ : ∃ y, Hid (G.expT nmB (sco ks) e = y) := ⟨_, Lib.hid rfl⟩
  rw [hy.out] at HE ⊢
  unfold RxP
  clear hc hy hV hin hl hnod hts
  go_enter Tryz.func50, Tryz.ntmps50
  go_upto_region 1 with (fail)
  revert X
  generalize (w.alloc (.cells #[.int .i64 e.kd, .int .i64 e.lo, .int .i64 e.hi, .int .i64 e.sz, .string e.nm, .slice e.na e.ns.length e.nc, .slice e.ad e.ks.length e.cap] 26)).alloc (.cells zbox 26) = w1
  intro X
  obtain ⟨k0, k1, k2, k3, k4, k5, k6⟩ := box_cells X.be
  go_wp2_with fail
  refine (C1.out _ X).mono ?_
  rintro r w2 ⟨rfl, b2⟩
  replace X := X.below b2
  clear k0 k1 k2 k3 k4 k5 k6 b2 C1
  by_cases h0 : c = 0
  case neg =>
    have q0 : (c != 0) = true := by simpa using h0
    have HY : Hid (y = (G.zero, c)) := Lib.hid (by rw [HE.out, if_pos h0])
    clear HE HK HS3 C2 h0
    obtain ⟨z0, z1, z2, z3, z4, z5, z6⟩ := box_zero X.br
    have f0 := X.br.fr 0
    have f1 := X.br.fr 1
    have f2 := X.br.fr 2
    have f3 := X.br.fr 3
    have f4 := X.br.fr 4
    have f5 := X.br.fr 5
    have f6 := X.br.fr 6
    have HI2 := Lib.hid (put7_in (w3 := w2) (b := w.heap.size + 1) (x := G.zero) (S := fun _ => False) (S' := SN S w) (zero_in _ _) (fun q hq _ => hq.elim))
    have HBl := Lib.hid (X.bel.grown (put7_grown w2 (w.heap.size + 1) G.zero) X.bel.size (fun k e => by cases e; omega))
    have HP := Lib.hid (box_cells (e := G.zero) (seven_put X.br (.int .i64 0) (.int .i64 0) (.int .i64 0) (.int .i64 0) (.string ⟨#[]⟩) (.slice none 0 0) (.slice none 0 0)))
    go_wp2_with fail
    obtain ⟨r0, r1, r2, r3, r4, r5, r6⟩ := HP.out
    refine bodyPost_ret (v := .tuple #[G.zero.val, .int .i64 c]) (by simp [results, Tryz.results50, go_sem, r0, r1, r2, r3, r4, r5, r6]) rfl ⟨G.zero, by rw [HY.out], HI2.out, by rw [HY.out]; exact zero_bare, HBl.out⟩
  have q0 : (c != 0) = false := by rw [h0]; rfl
  have ok := Lib.hid (HK.out h0)
  have HE2 : Hid (y = if e.any (G.unk (sco ks)) then (G.zero, 7) else if G.exC (G.repl (sco ks) e) ≠ 0 then (G.zero, G.exC (G.repl (sco ks) e)) else (G.repl (sco ks) e, 0)) := Lib.hid (by rw [HE.out, if_neg (by rw [h0]; simp)])
  have HR := Lib.hid (C2.out ok.out _ X)
  clear HE HK h0 C2
  unfold RqP at HR
  obtain ⟨k0, k1, k2, k3, k4, k5, k6⟩ := box_cells X.be
  cases hu : e.any (G.unk (sco ks)) with
  | true =>
    have HY : Hid (y = (G.zero, 7)) := Lib.hid (by rw [HE2.out, hu]; rfl)
    rw [hu] at HR
    clear HE2 HS3 hu
    go_wp2_with fail
    refine HR.out.mono ?_
    rintro r w3 ⟨x, rfl, hx, hxb, b3⟩
    have b4 := bTrans b3 (al1 w3 (.cells x.box 26))
    replace X := X.below b4
    clear k0 k1 k2 k3 k4 k5 k6 hx hxb HR b3 b4
    go_upto_region 5 with (fail)
    revert X
    generalize w3.alloc (.cells #[.int .i64 x.kd, .int .i64 x.lo, .int .i64 x.hi, .int .i64 x.sz, .string x.nm, .slice x.na x.ns.length x.nc, .slice x.ad x.ks.length x.cap] 26) = w4
    intro X
    obtain ⟨z0, z1, z2, z3, z4, z5, z6⟩ := box_zero X.br
    have f0 := X.br.fr 0
    have f1 := X.br.fr 1
    have f2 := X.br.fr 2
    have f3 := X.br.fr 3
    have f4 := X.br.fr 4
    have f5 := X.br.fr 5
    have f6 := X.br.fr 6
    have HI2 := Lib.hid (put7_in (w3 := w4) (b := w.heap.size + 1) (x := G.zero) (S := fun _ => False) (S' := SN S w) (zero_in _ _) (fun q hq _ => hq.elim))
    have HBl := Lib.hid (X.bel.grown (put7_grown w4 (w.heap.size + 1) G.zero) X.bel.size (fun k e => by cases e; omega))
    have HP := Lib.hid (box_cells (e := G.zero) (seven_put X.br (.int .i64 0) (.int .i64 0) (.int .i64 0) (.int .i64 0) (.string ⟨#[]⟩) (.slice none 0 0) (.slice none 0 0)))
    go_wp2_with fail
    obtain ⟨r0, r1, r2, r3, r4, r5, r6⟩ := HP.out
    refine bodyPost_ret (v := .tuple #[G.zero.val, .int .i64 7]) (by simp [results, Tryz.results50, go_sem, r0, r1, r2, r3, r4, r5, r6]) rfl ⟨G.zero, by rw [HY.out], HI2.out, by rw [HY.out]; exact zero_bare, HBl.out⟩
  | false =>
    have HE3 : Hid (y = if G.exC (G.repl (sco ks) e) ≠ 0 then (G.zero, G.exC (G.repl (sco ks) e)) else (G.repl (sco ks) e, 0)) := Lib.hid (by rw [HE2.out, hu]; rfl)
    have HS4 := Lib.hid (HS3.out ok.out hu)
    have hrq : rqY (sco ks) e = G.repl (sco ks) e := by unfold rqY; rw [hu]; rfl
    rw [hu, hrq] at HR
    clear HE2 HS3 hu hrq
    go_wp2_with fail
    refine HR.out.mono ?_
    rintro r w3 ⟨x, rfl, hx, hxb, b3⟩
    have b4 := bTrans b3 (al1 w3 (.cells x.box 26))
    have BX := Blk.new_ w3 x.box 26
    have hbr := X.br.lt
    have hx4 := (hx.below (al1 w3 (.cells x.box 26))).sub (S' := fun b => S b ∨ w.heap.size + 2 ≤ b) (fun b hb => by
      have h1 : S b ∨ w2.heap.size ≤ b := hb
      exact h1.imp_right fun h1 => by omega)
    replace X := X.below b4
    have hmal : x.any G.mal = false := by rw [← G.any_bare G.mal_bare, hxb]; exact HS4.out.1
    have hout : x.any G.out = false := by rw [← G.any_bare G.out_bare, hxb]; exact HS4.out.2.1
    have hnd : x.nodes ≤ 1000000 := by rw [← G.nodes_bare, hxb]; exact HS4.out.2.2
    have HEX : Hid (G.exC (G.repl (sco ks) e) = if x.any G.dbl then 8 else if 12 < x.dep ∨ 32 < x.cnt then 4 else 0) := Lib.hid (by rw [← hxb, G.exC_bare, G.any_congr2 G.dbl_twins x hmal]; rfl)
    rw [HEX.out] at HE3
    have D1 := Lib.hid (fun W (h : G.In W W.heap.size x) => rdoubled_any x W h)
    have D2 := Lib.hid (fun W (h : G.In W W.heap.size x) => r12depth_any x W h (G.dep_le hnd))
    have D3 := Lib.hid (fun W (h : G.In W W.heap.size x) => rcount_any x W h (G.no_badA hmal hout) hnd)
    clear k0 k1 k2 k3 k4 k5 k6 hx HR b3 b4 hmal hout hnd HS4 HEX
    go_upto_region 5 with (fail)
    revert BX hx4 X
    generalize w3.alloc (.cells #[.int .i64 x.kd, .int .i64 x.lo, .int .i64 x.hi, .int .i64 x.sz, .string x.nm, .slice x.na x.ns.length x.nc, .slice x.ad x.ks.length x.cap] 26) = w4
    intro BX hx4 X
    obtain ⟨m0, m1, m2, m3, m4, m5, m6⟩ := box_cells BX
    go_wp2_with fail
    refine (D1.out _ (G.InS.in_ _ hx4)).mono ?_
    rintro r w5 ⟨rfl, b5⟩
    replace X := X.below b5
    replace BX := BX.below b5 BX.lt
    replace hx4 := hx4.below b5
    clear m0 m1 m2 m3 m4 m5 m6 b5 D1
    cases hd : x.any G.dbl with
    | true =>
      have HY : Hid (y = (G.zero, 8)) := Lib.hid (by rw [HE3.out, hd]; rfl)
      clear HE3 hd BX hx4 D2 D3
      obtain ⟨z0, z1, z2, z3, z4, z5, z6⟩ := box_zero X.br
      have f0 := X.br.fr 0
      have f1 := X.br.fr 1
      have f2 := X.br.fr 2
      have f3 := X.br.fr 3
      have f4 := X.br.fr 4
      have f5 := X.br.fr 5
      have f6 := X.br.fr 6
      have HI2 := Lib.hid (put7_in (w3 := w5) (b := w.heap.size + 1) (x := G.zero) (S := fun _ => False) (S' := SN S w) (zero_in _ _) (fun q hq _ => hq.elim))
      have HBl := Lib.hid (X.bel.grown (put7_grown w5 (w.heap.size + 1) G.zero) X.bel.size (fun k e => by cases e; omega))
      have HP := Lib.hid (box_cells (e := G.zero) (seven_put X.br (.int .i64 0) (.int .i64 0) (.int .i64 0) (.int .i64 0) (.string ⟨#[]⟩) (.slice none 0 0) (.slice none 0 0)))
      go_wp2_with fail
      obtain ⟨r0, r1, r2, r3, r4, r5, r6⟩ := HP.out
      refine bodyPost_ret (v := .tuple #[G.zero.val, .int .i64 8]) (by simp [results, Tryz.results50, go_sem, r0, r1, r2, r3, r4, r5, r6]) rfl ⟨G.zero, by rw [HY.out], HI2.out, by rw [HY.out]; exact zero_bare, HBl.out⟩
    | false =>
      have HE4 : Hid (y = if (if 12 < x.dep ∨ 32 < x.cnt then (4 : Int) else 0) ≠ 0 then (G.zero, if 12 < x.dep ∨ 32 < x.cnt then 4 else 0) else (G.repl (sco ks) e, 0)) := Lib.hid (by rw [HE3.out, hd]; rfl)
      clear HE3 hd
      obtain ⟨m0, m1, m2, m3, m4, m5, m6⟩ := box_cells BX
      by_cases hdp : 12 < x.dep
      · have q12 : (12 : Int) < ((x.dep : Nat) : Int) := by omega
        have HY : Hid (y = (G.zero, 4)) := Lib.hid (HE4.out.trans (ex_four _ (.inl hdp)))
        clear HE4 hdp
        go_wp2_with fail
        refine (D2.out _ (G.InS.in_ _ hx4)).mono ?_
        rintro r w6 ⟨rfl, b6⟩
        replace X := X.below b6
        clear m0 m1 m2 m3 m4 m5 m6 b6 D2 D3 BX hx4
        obtain ⟨z0, z1, z2, z3, z4, z5, z6⟩ := box_zero X.br
        have f0 := X.br.fr 0
        have f1 := X.br.fr 1
        have f2 := X.br.fr 2
        have f3 := X.br.fr 3
        have f4 := X.br.fr 4
        have f5 := X.br.fr 5
        have f6 := X.br.fr 6
        have HI2 := Lib.hid (put7_in (w3 := w6) (b := w.heap.size + 1) (x := G.zero) (S := fun _ => False) (S' := SN S w) (zero_in _ _) (fun q hq _ => hq.elim))
        have HBl := Lib.hid (X.bel.grown (put7_grown w6 (w.heap.size + 1) G.zero) X.bel.size (fun k e => by cases e; omega))
        have HP := Lib.hid (box_cells (e := G.zero) (seven_put X.br (.int .i64 0) (.int .i64 0) (.int .i64 0) (.int .i64 0) (.string ⟨#[]⟩) (.slice none 0 0) (.slice none 0 0)))
        go_wp2_with fail
        obtain ⟨r0, r1, r2, r3, r4, r5, r6⟩ := HP.out
        refine bodyPost_ret (v := .tuple #[G.zero.val, .int .i64 4]) (by simp [results, Tryz.results50, go_sem, r0, r1, r2, r3, r4, r5, r6]) rfl ⟨G.zero, by rw [HY.out], HI2.out, by rw [HY.out]; exact zero_bare, HBl.out⟩
      · have q12 : ¬ (12 : Int) < ((x.dep : Nat) : Int) := by omega
        go_wp2_with fail
        refine (D2.out _ (G.InS.in_ _ hx4)).mono ?_
        rintro r w6 ⟨rfl, b6⟩
        replace X := X.below b6
        replace BX := BX.below b6 BX.lt
        replace hx4 := hx4.below b6
        clear m0 m1 m2 m3 m4 m5 m6 b6 D2
        obtain ⟨m0, m1, m2, m3, m4, m5, m6⟩ := box_cells BX
        by_cases hcn : 32 < x.cnt
        · have HY : Hid (y = (G.zero, 4)) := Lib.hid (HE4.out.trans (ex_four _ (.inr hcn)))
          have q32 := hcn
          clear HE4 hcn hdp
          go_wp2_with fail
          refine (D3.out _ (G.InS.in_ _ hx4)).mono ?_
          rintro r w7 ⟨rfl, b7⟩
          replace X := X.below b7
          clear m0 m1 m2 m3 m4 m5 m6 b7 D3 BX hx4
          obtain ⟨z0, z1, z2, z3, z4, z5, z6⟩ := box_zero X.br
          have f0 := X.br.fr 0
          have f1 := X.br.fr 1
          have f2 := X.br.fr 2
          have f3 := X.br.fr 3
          have f4 := X.br.fr 4
          have f5 := X.br.fr 5
          have f6 := X.br.fr 6
          have HI2 := Lib.hid (put7_in (w3 := w7) (b := w.heap.size + 1) (x := G.zero) (S := fun _ => False) (S' := SN S w) (zero_in _ _) (fun q hq _ => hq.elim))
          have HBl := Lib.hid (X.bel.grown (put7_grown w7 (w.heap.size + 1) G.zero) X.bel.size (fun k e => by cases e; omega))
          have HP := Lib.hid (box_cells (e := G.zero) (seven_put X.br (.int .i64 0) (.int .i64 0) (.int .i64 0) (.int .i64 0) (.string ⟨#[]⟩) (.slice none 0 0) (.slice none 0 0)))
          go_wp2_with fail
          obtain ⟨r0, r1, r2, r3, r4, r5, r6⟩ := HP.out
          refine bodyPost_ret (v := .tuple #[G.zero.val, .int .i64 4]) (by simp [results, Tryz.results50, go_sem, r0, r1, r2, r3, r4, r5, r6]) rfl ⟨G.zero, by rw [HY.out], HI2.out, by rw [HY.out]; exact zero_bare, HBl.out⟩
        · have hno : ¬ (12 < x.dep ∨ 32 < x.cnt) := by omega
          have HY : Hid (y = (G.repl (sco ks) e, 0)) := Lib.hid (HE4.out.trans (ex_none _ hno))
          have q32 := hcn
          clear HE4 hcn hdp hno
          go_wp2_with fail
          refine (D3.out _ (G.InS.in_ _ hx4)).mono ?_
          rintro r w7 ⟨rfl, b7⟩
          replace X := X.below b7
          replace BX := BX.below b7 BX.lt
          replace hx4 := hx4.below b7
          clear m0 m1 m2 m3 m4 m5 m6 b7 D3
          obtain ⟨m0, m1, m2, m3, m4, m5, m6⟩ := box_cells BX
          obtain ⟨z0, z1, z2, z3, z4, z5, z6⟩ := box_zero X.br
          have f0 := X.br.fr 0
          have f1 := X.br.fr 1
          have f2 := X.br.fr 2
          have f3 := X.br.fr 3
          have f4 := X.br.fr 4
          have f5 := X.br.fr 5
          have f6 := X.br.fr 6
          have HI2 := Lib.hid (put7_in (w3 := w7) (b := w.heap.size + 1) (x := x) (S' := SN S w) hx4 (fun q hq _ => by have h1 : S q ∨ w.heap.size + 2 ≤ q := hq; have h2 : q < w.heap.size ∨ w.heap.size + 2 ≤ q := h1.imp_left (hB q); exact ⟨by omega, h1.imp_right fun h1 => by omega⟩))
          have HBl := Lib.hid (X.bel.grown (put7_grown w7 (w.heap.size + 1) x) X.bel.size (fun k e => by cases e; omega))
          have HP := Lib.hid (box7 (seven_put X.br (.int .i64 x.kd) (.int .i64 x.lo) (.int .i64 x.hi) (.int .i64 x.sz) (.string x.nm) (.slice x.na x.ns.length x.nc) (.slice x.ad x.ks.length x.cap)))
          clear hx4
          go_wp2_with fail
          obtain ⟨r0, r1, r2, r3, r4, r5, r6⟩ := HP.out
          refine bodyPost_ret (v := .tuple #[x.val, .int .i64 0]) (by simp [results, Tryz.results50, go_sem, r0, r1, r2, r3, r4, r5, r6]) rfl ⟨x, by rw [HY.out], HI2.out, by rw [HY.out]; exact hxb, HBl.out⟩
end Go.Proofs.YtlpnbcdnlbghdaaGreatDoor
