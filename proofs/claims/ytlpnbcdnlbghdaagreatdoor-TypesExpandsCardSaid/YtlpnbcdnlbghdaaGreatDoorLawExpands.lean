/- Walk: the law TypesExpands. -/
import Derived.Test.YtlpnbcdnlbghdaaGreatDoorRy
import Derived.Test.YtlpnbcdnlbghdaaGreatDoorKw
import Derived.Test.YtlpnbcdnlbghdaaGreatDoorRe
namespace Go.Proofs.YtlpnbcdnlbghdaaGreatDoor
open Go.RowKit Go.Sort
set_option linter.unusedVariables false

/-- what the reference's Expand leaves -/
def RaP (y : G × Int) (w : World) (r : Ending) (w' : World) : Prop :=
  ∃ x : G, r = .returned (.tuple #[x.val, .int .i64 y.2]) ∧ G.In w' w'.heap.size x ∧ x.bare = y.1 ∧ Below w.heap.size w w'
set_option maxRecDepth 100000 in
set_option maxHeartbeats 4000000 in
theorem rexpandAll_any (ds : List Dc) (A : Option Addr) (c0 : Nat) (e : G) (w : World) (hl : Dc.L w w.heap.size A ds) (hin : G.In w w.heap.size e) (hn : ds.length ≤ 1000) (hnod : ∀ d ∈ ds, d.t.nodes ≤ 1000000) (hne : e.nodes ≤ 1000000) :
    Calls Tryz.prog 18 #[.slice A ds.length c0, e.val] w (RaP (G.expD nmB ds e) w) := by
  have X := AnZ.start w e 26 26
  have C1 := Lib.hid (fun W (i : AnZ w W e) => rknown_any ds A c0 w.heap.size W i.bel.size (hl.below i.bel) hn hnod)
  have HE : Hid (G.expD nmB ds e = if (G.knD nmB ds []).2 ≠ 0 then (G.zero, (G.knD nmB ds []).2) else G.expT nmB (G.knD nmB ds []).1 e) := Lib.hid rfl
  have HIN := Lib.hid hin
  obtain ⟨q, hq⟩ : ∃ q, Hid (G.knD nmB ds [] = q) := ⟨_, Lib.hid rfl⟩
  obtain ⟨y, hy⟩ : ∃ y, Hid (G.expD nmB ds e = y) := ⟨_, Lib.hid rfl⟩
  unfold KnP at C1
  rw [hq.out] at C1 HE
  rw [hy.out] at HE ⊢
  unfold RaP
  clear hq hy hin hl hnod hn
  go_enter Tryz.func18, Tryz.ntmps18
  go_upto_region 1 with (fail)
  revert X
  generalize (w.alloc (.cells #[.int .i64 e.kd, .int .i64 e.lo, .int .i64 e.hi, .int .i64 e.sz, .string e.nm, .slice e.na e.ns.length e.nc, .slice e.ad e.ks.length e.cap] 26)).alloc (.cells zbox 26) = w1
  intro X
  go_wp2_with fail
  refine (C1.out _ X).mono ?_
  rintro r w2 ⟨A', c', ks, rfl, hks, b2⟩
  have HX1 := X.br.lt
  replace X := X.below b2
  clear C1
  by_cases h0 : q.2 = 0
  case neg =>
    have q0 : (q.2 != 0) = true := by simpa using h0
    have HY : Hid (y = (G.zero, q.2)) := Lib.hid (by rw [HE.out, if_pos h0])
    clear HE h0 hks b2
    obtain ⟨z0, z1, z2, z3, z4, z5, z6⟩ := box_zero X.br
    have f0 := X.br.fr 0
    have f1 := X.br.fr 1
    have f2 := X.br.fr 2
    have f3 := X.br.fr 3
    have f4 := X.br.fr 4
    have f5 := X.br.fr 5
    have f6 := X.br.fr 6
    have HI2 := Lib.hid (put7_in (w3 := w2) (b := w.heap.size + 1) (x := G.zero) (S := fun _ => False) (S' := fun _ => True) (zero_in _ _) (fun q hq _ => hq.elim))
    have HBl := Lib.hid (X.bel.grown (put7_grown w2 (w.heap.size + 1) G.zero) X.bel.size (fun k e => by cases e; omega))
    have HP := Lib.hid (box_cells (e := G.zero) (seven_put X.br (.int .i64 0) (.int .i64 0) (.int .i64 0) (.int .i64 0) (.string ⟨#[]⟩) (.slice none 0 0) (.slice none 0 0)))
    go_wp2_with fail
    obtain ⟨r0, r1, r2, r3, r4, r5, r6⟩ := HP.out
    refine bodyPost_ret (v := .tuple #[G.zero.val, .int .i64 q.2]) (by simp [results, Tryz.results18, go_sem, r0, r1, r2, r3, r4, r5, r6]) rfl ⟨G.zero, by rw [HY.out], G.InS.in_ _ HI2.out, by rw [HY.out]; exact zero_bare, HBl.out⟩
  have q0 : (q.2 != 0) = false := by rw [h0]; rfl
  obtain ⟨hL, hA, hV, hLk⟩ := hks h0
  have HY0 : Hid (y = G.expT nmB q.1 e) := Lib.hid (by rw [HE.out, if_neg (by rw [h0]; simp)])
  have hw2 := X.bel.size
  obtain ⟨yt, hyt⟩ : ∃ yt, Hid (G.expT nmB (sco ks) e = yt) := ⟨_, Lib.hid rfl⟩
  have HY : Hid (y = yt) := Lib.hid (by rw [HY0.out, ← hyt.out, hLk.expT])
  have hsz1 : w1.heap.size ≤ w2.heap.size := b2.size
  have HR := rexpand_any ks e (fun b => b < w2.heap.size ∧ (b < w.heap.size ∨ w1.heap.size ≤ b)) A' c' w2 (fun b hb => hb.1) hL (fun d hd => (hA d hd).keep (fun _ _ _ => rfl) (fun b hb hlt => ⟨hlt, hb⟩) (Nat.le_refl _)) hV (G.In.inS (B := w.heap.size) hw2 (fun b hb => ⟨by omega, .inl hb⟩) e (HIN.out.below X.bel)) hne
  rw [hyt.out] at HR
  have HR2 := Lib.hid HR
  unfold RxP at HR2
  clear HR hL hA hV hLk HE h0 hks HY0 hyt b2
  obtain ⟨k0, k1, k2, k3, k4, k5, k6⟩ := box_cells X.be
  go_wp2_with fail
  refine HR2.out.mono ?_
  rintro r w3 ⟨x, rfl, hx, hxb, b3⟩
  replace X := X.below b3
  have hs3 := b3.size
  have hx4 := hx.sub (S' := fun b => b ≠ w.heap.size + 1) (fun b hb => by
    rcases hb with hb | hb
    · have := hb.2; omega
    · omega)
  clear k0 k1 k2 k3 k4 k5 k6 HR2 hx b3
  obtain ⟨z0, z1, z2, z3, z4, z5, z6⟩ := box_zero X.br
  have f0 := X.br.fr 0
  have f1 := X.br.fr 1
  have f2 := X.br.fr 2
  have f3 := X.br.fr 3
  have f4 := X.br.fr 4
  have f5 := X.br.fr 5
  have f6 := X.br.fr 6
  have HI2 := Lib.hid (put7_in (w3 := w3) (b := w.heap.size + 1) (x := x) (S' := fun _ => True) hx4 (fun q hq _ => ⟨hq, trivial⟩))
  have HBl := Lib.hid (X.bel.grown (put7_grown w3 (w.heap.size + 1) x) X.bel.size (fun k e => by cases e; omega))
  have HP := Lib.hid (box7 (seven_put X.br (.int .i64 x.kd) (.int .i64 x.lo) (.int .i64 x.hi) (.int .i64 x.sz) (.string x.nm) (.slice x.na x.ns.length x.nc) (.slice x.ad x.ks.length x.cap)))
  clear hx4
  go_wp2_with fail
  obtain ⟨r0, r1, r2, r3, r4, r5, r6⟩ := HP.out
  refine bodyPost_ret (v := .tuple #[x.val, .int .i64 yt.2]) (by simp [results, Tryz.results18, go_sem, r0, r1, r2, r3, r4, r5, r6]) rfl ⟨x, by rw [HY.out], G.InS.in_ _ HI2.out, by rw [HY.out]; exact hxb, HBl.out⟩
set_option maxRecDepth 100000 in
set_option maxHeartbeats 4000000 in
theorem expands_walk (A : Option Addr) (ds : List Dc) (c : Nat) (e : G) (w : World) (hl : Dc.L w w.heap.size A ds) (he : G.In w w.heap.size e) (hT : Tb w.heap.size w) :
    Calls Tryz.prog 4 #[.slice A ds.length c, e.val] w fun r w' => r = .returned (.bool true) ∧ Below w.heap.size w w' := by
  have X := Eb.start w e 26
  have HT := Lib.hid (fun W (i : Below w.heap.size w W) => hT.at i)
  have F0 := Lib.hid (fun W (i : Eb w W e) => fewDecls_any ds A c W (hl.at i.bel))
  have F1 := Lib.hid (fun W (i : Eb w W e) => few_any e W (he.at i.bel))
  have X1 := Lib.hid (fun (hn : ds.length ≤ 1000) W (i : Eb w W e) => expandAll_any ds A c e W (hl.at i.bel) (he.at i.bel) (hT.at i.bel) hn)
  have X2 := Lib.hid (fun (hn : ds.length ≤ 1000) (hd : ∀ d ∈ ds, d.t.nodes ≤ 1000000) (h : e.nodes ≤ 1000000) W (i : Eb w W e) => rexpandAll_any ds A c e W (hl.at i.bel) (he.at i.bel) hn hd h)
  have HN := Lib.hid (show fewDs ds = true → ds.length ≤ 1000 ∧ ∀ d ∈ ds, d.t.nodes ≤ 1000000 from fun h => by
    unfold fewDs at h
    rw [Bool.and_eq_true, decide_eq_true_eq, Bool.not_eq_true', List.any_eq_false] at h
    refine ⟨by omega, fun d hd => few_nodes ?_⟩
    have := h.2 d hd
    unfold fewD at this
    simpa using this)
  have HN1 := Lib.hid (show fewB e = true → e.nodes ≤ 1000000 from few_nodes)
  obtain ⟨y, hy⟩ : ∃ y, Hid (G.expD nmB ds e = y) := ⟨_, Lib.hid rfl⟩
  rw [hy.out] at X1 X2
  clear he hl hT hy
  go_enter Tryz.func4, Tryz.ntmps4
  go_upto_region 1 with (fail)
  revert X
  generalize w.alloc (.cells #[.int .i64 e.kd, .int .i64 e.lo, .int .i64 e.hi, .int .i64 e.sz, .string e.nm, .slice e.na e.ns.length e.nc, .slice e.ad e.ks.length e.cap] 26) = w1
  intro X
  go_wp2_with fail
  refine (known_any _ (HT.out _ X.bel)).mono ?_
  rintro r w2 ⟨rfl, b2⟩
  replace X := X.below b2
  clear b2 HT
  obtain ⟨k0, k1, k2, k3, k4, k5, k6⟩ := box_cells X.be
  cases h0 : fewDs ds with
  | false =>
    rw [h0] at F0
    clear h0
    go_wp2_with fail
    refine (F0.out _ X).mono ?_
    rintro r w3 ⟨rfl, b3⟩
    have b4 := (X.below b3).bel
    go_wp2_with fail
    go_ret
    exact ⟨rfl, b4⟩
  | true =>
    obtain ⟨hn1, hn2⟩ := HN.out h0
    rw [h0] at F0
    have X1' := Lib.hid (X1.out hn1)
    have X2' := Lib.hid (X2.out hn1 hn2)
    clear h0 HN X1 X2 hn1 hn2
    go_wp2_with fail
    refine (F0.out _ X).mono ?_
    rintro r w3 ⟨rfl, b3⟩
    replace X := X.below b3
    clear b3 F0 k0 k1 k2 k3 k4 k5 k6
    obtain ⟨k0, k1, k2, k3, k4, k5, k6⟩ := box_cells X.be
    cases h1 : fewB e with
    | false =>
      rw [h1] at F1
      clear h1
      go_wp2_with fail
      refine (F1.out _ X).mono ?_
      rintro r w4 ⟨rfl, b4⟩
      have b5 := (X.below b4).bel
      go_wp2_with fail
      go_ret
      exact ⟨rfl, b5⟩
    | true =>
      have X2'' := Lib.hid (X2'.out (HN1.out h1))
      rw [h1] at F1
      clear h1 HN1 X2'
      unfold RaP at X2''
      go_wp2_with fail
      refine (F1.out _ X).mono ?_
      rintro r w4 ⟨rfl, b4⟩
      replace X := X.below b4
      clear b4 F1 k0 k1 k2 k3 k4 k5 k6
      obtain ⟨k0, k1, k2, k3, k4, k5, k6⟩ := box_cells X.be
      go_wp2_with fail
      refine (X1'.out _ X).mono ?_
      rintro r w5 ⟨x, rfl, hx, hxb, b5⟩
      have b6 := bTrans b5 (al1 w5 (.cells x.box 26))
      have BX := Blk.new_ w5 x.box 26
      have hxi := hx.in_.at (al1 w5 (.cells x.box 26))
      replace X := X.below b6
      clear b5 b6 X1' hx k0 k1 k2 k3 k4 k5 k6
      obtain ⟨k0, k1, k2, k3, k4, k5, k6⟩ := box_cells X.be
      go_wp2_with fail
      refine (X2''.out _ X).mono ?_
      rintro r w7 ⟨z, rfl, hz, hzb, b7⟩
      have b8 := bTrans b7 (al1 w7 (.cells z.box 26))
      have BZ := Blk.new_ w7 z.box 26
      have hzi := hz.at (al1 w7 (.cells z.box 26))
      replace X := X.below b8
      replace BX := BX.below b8 BX.lt
      replace hxi := hxi.at b8
      have HQ := Lib.hid (requal_any x z _ hxi hzi)
      rw [(G.eqB_bare x z).2 (by rw [hxb, hzb])] at HQ
      have bw := X.bel
      clear b7 b8 X2'' hz hxi hzi hxb hzb k0 k1 k2 k3 k4 k5 k6
      obtain ⟨k0, k1, k2, k3, k4, k5, k6⟩ := box_cells BX
      obtain ⟨m0, m1, m2, m3, m4, m5, m6⟩ := box_cells BZ
      go_wp2_with fail
      refine HQ.out.mono ?_
      rintro r w9 ⟨rfl, b9⟩
      have b10 := bTrans bw b9
      go_wp2_with fail
      go_ret
      exact ⟨rfl, b10⟩
end Go.Proofs.YtlpnbcdnlbghdaaGreatDoor
