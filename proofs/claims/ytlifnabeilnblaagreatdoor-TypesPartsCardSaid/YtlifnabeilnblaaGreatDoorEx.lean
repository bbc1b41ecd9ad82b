/- Walks: expand of package types. -/
import Derived.Test.YtlifnabeilnblaaGreatDoorEp
namespace Go.Proofs.YtlifnabeilnblaaGreatDoor
open Go.RowKit Go.Sort Go.Maps
set_option linter.unusedVariables false

theorem G.InS.below {w w' : World} {S : Nat → Prop} {e : G} (h : G.InS w S e) (hb : Below w.heap.size w w') : G.InS w' S e := h.keep (fun p _ hlt => hb.cell hlt) (fun _ h _ => h) hb.size
/-- a call hands back a new type and a code -/
def NewTC (y : G × Int) (w : World) (r : Ending) (w' : World) : Prop := ∃ x : G, r = .returned (.tuple #[x.val, .int .i64 y.2]) ∧ G.InS w' (New w) x ∧ x.bare = y.1 ∧ Below w.heap.size w w'
/-- a type stored in a result's box -/
theorem seven_out {w wr w3 : World} {b : Nat} {x : G} (hb1 : w.heap.size ≤ b) (hb2 : b < wr.heap.size) (hz : w.heap.size ≤ wr.heap.size) (bel : Below w.heap.size w w3) (hx : G.InS w3 (New wr) x) :
    G.InS (((((((w3.setCell ⟨b, 0, none⟩ (.int .i64 x.kd)).setCell ⟨b, 1, none⟩ (.int .i64 x.lo)).setCell ⟨b, 2, none⟩ (.int .i64 x.hi)).setCell ⟨b, 3, none⟩ (.int .i64 x.sz)).setCell ⟨b, 4, none⟩ (.string x.nm)).setCell ⟨b, 5, none⟩ (.slice x.na x.ns.length x.nc)).setCell ⟨b, 6, none⟩ (.slice x.ad x.ks.length x.cap)) (New w) x
    ∧ Below w.heap.size w (((((((w3.setCell ⟨b, 0, none⟩ (.int .i64 x.kd)).setCell ⟨b, 1, none⟩ (.int .i64 x.lo)).setCell ⟨b, 2, none⟩ (.int .i64 x.hi)).setCell ⟨b, 3, none⟩ (.int .i64 x.sz)).setCell ⟨b, 4, none⟩ (.string x.nm)).setCell ⟨b, 5, none⟩ (.slice x.na x.ns.length x.nc)).setCell ⟨b, 6, none⟩ (.slice x.ad x.ks.length x.cap)) := by
  have hg := seven_grown w3 b (.int .i64 x.kd) (.int .i64 x.lo) (.int .i64 x.hi) (.int .i64 x.sz) (.string x.nm) (.slice x.na x.ns.length x.nc) (.slice x.ad x.ks.length x.cap)
  revert hg
  generalize ((((((w3.setCell ⟨b, 0, none⟩ (.int .i64 x.kd)).setCell ⟨b, 1, none⟩ (.int .i64 x.lo)).setCell ⟨b, 2, none⟩ (.int .i64 x.hi)).setCell ⟨b, 3, none⟩ (.int .i64 x.sz)).setCell ⟨b, 4, none⟩ (.string x.nm)).setCell ⟨b, 5, none⟩ (.slice x.na x.ns.length x.nc)).setCell ⟨b, 6, none⟩ (.slice x.ad x.ks.length x.cap) = w7
  intro hg
  refine ⟨hx.keep (fun p hp hlt => World.cell?_of_block (w := w3) (hg.block _ hlt (by
    intro e
    have e' : p.block = b := by simpa using e
    have : wr.heap.size ≤ p.block := hp
    omega))) (fun b hb2 hlt => by have : wr.heap.size ≤ b := hb2; show w.heap.size ≤ b; omega) hg.size, ?_⟩
  exact bel.grown hg bel.size (fun k e => by cases e; omega)
/-- the zero type lies anywhere -/
theorem zero_in (w : World) (S : Nat → Prop) : G.InS w S G.zero := by
  rw [G.inS_eq, G.inSL_iff]
  refine ⟨⟨?_, ?_, ?_, ?_, ?_, ?_, ?_, ⟨fun h => absurd h (by decide)⟩, ?_, ⟨fun h => absurd h (by decide)⟩⟩, fun e he => absurd he (by show ¬ e ∈ []; simp)⟩
  · show inI 0; unfold inI; omega
  · show inI 0; unfold inI; omega
  · show inI 0; unfold inI; omega
  · show inI 0; unfold inI; omega
  · show (⟨#[]⟩ : ByteArray).size ≤ _; decide
  · show 0 ≤ _; omega
  · intro s hs; exact absurd hs (by show ¬ s ∈ []; simp)
  · show 0 ≤ _; omega
theorem zero_bare : G.zero.bare = G.zero := by rw [G.bare_eq]; rfl
/-- the boxes of expand -/
structure EpW (w wr : World) (M : Nat) (e : G) : Prop where
  bs : One wr w.heap.size (.map (some M))
  be : Blk wr (w.heap.size + 1) e.box
  br : Blk wr (w.heap.size + 2) zbox
  bel : Below w.heap.size w wr
theorem EpW.start (w : World) (M : Nat) (e : G) (T T' T'' : TypeId) : EpW w (((w.alloc (.cells #[.map (some M)] T)).alloc (.cells e.box T')).alloc (.cells zbox T'')) M e :=
  ⟨((One.new_ _ _ _).alloc _).alloc _, by
    have := (Blk.new_ (w.alloc (.cells #[.map (some M)] T)) e.box T').alloc (.cells zbox T'')
    rwa [World.size_alloc] at this, by
    have := Blk.new_ ((w.alloc (.cells #[.map (some M)] T)).alloc (.cells e.box T')) zbox T''
    rwa [World.size_alloc, World.size_alloc] at this, ((al1 w _).alloc (by simp) _).alloc (by simp; omega) _⟩
theorem EpW.below {w wr w' : World} {M : Nat} {e : G} (h : EpW w wr M e) (hb : Below wr.heap.size wr w') : EpW w w' M e := ⟨h.bs.below hb h.bs.lt, h.be.below hb h.be.lt, h.br.below hb h.br.lt, bTrans h.bel hb⟩
set_option maxRecDepth 100000 in
set_option maxHeartbeats 2000000 in
theorem expand_any (σ : G.Sco) (M : Nat) (e : G) (w : World) (hS : Sc w M σ) (hV : G.VS nmB σ) (hin : G.In w w.heap.size e) (hT : Tb w.heap.size w) :
    Calls Tryz.prog 36 #[.map (some M), e.val] w (NewTC (G.expT nmB σ e) w) := by
  have X := EpW.start w M e 78 26 26
  have C1 := Lib.hid (fun W (i : EpW w W M e) => checkType_any e W (hin.at i.bel) (hT.at i.bel))
  have C2 := Lib.hid (fun W (i : EpW w W M e) => anywhere_unk (.pointer (some ⟨w.heap.size, 0, none⟩)) (hp_unk σ M w.heap.size) e W ⟨hS.below i.bel, i.bs⟩ (hin.at i.bel))
  have C3 := Lib.hid (fun (ok : G.Ok nmB e) (hu : e.any (G.unk σ) = false) W (i : EpW w W M e) => replaced_any σ M e W (hS.below i.bel) (hin.at i.bel) (G.Ok.sm ok) hu)
  have HE : Hid (G.expT nmB σ e = if G.chk nmB e ≠ 0 then (G.zero, G.chk nmB e) else if e.any (G.unk σ) then (G.zero, 7) else if G.exC (G.repl σ e) ≠ 0 then (G.zero, G.exC (G.repl σ e)) else (G.repl σ e, 0)) := Lib.hid rfl
  have HK : Hid (G.chk nmB e = 0 → G.Ok nmB e) := Lib.hid G.chk_ok.1
  have HS3 := Lib.hid (fun (ok : G.Ok nmB e) (hu : e.any (G.unk σ) = false) => G.repl_sm hV ok hu)
  obtain ⟨c, hc⟩ : ∃ c, Hid (G.chk nmB e = c) := ⟨_, Lib.hid rfl⟩
  rw [hc.out] at C1 HE HK
  obtain ⟨y, hy⟩ : ∃ y, Hid (G.expT nmB σ e = y) := ⟨_, Lib.hid rfl⟩
  rw [hy.out] at HE ⊢
  clear hc hy hT hS hV hin
  go_enter Tryz.func36, Tryz.ntmps36
  go_upto_region 1 with (fail)
  revert X
  generalize ((w.alloc (.cells #[.map (some M)] 78)).alloc (.cells #[.int .i64 e.kd, .int .i64 e.lo, .int .i64 e.hi, .int .i64 e.sz, .string e.nm, .slice e.na e.ns.length e.nc, .slice e.ad e.ks.length e.cap] 26)).alloc (.cells zbox 26) = w1
  intro X
  obtain ⟨k0, k1, k2, k3, k4, k5, k6⟩ := box_cells X.be
  go_wp2_with fail
  refine (C1.out _ X).mono ?_
  rintro r w2 ⟨rfl, b2⟩
  replace X := X.below b2
  clear k0 k1 k2 k3 k4 k5 k6 b2
  obtain ⟨k0, k1, k2, k3, k4, k5, k6⟩ := box_cells X.be
  obtain ⟨z0, z1, z2, z3, z4, z5, z6⟩ := box_zero X.br
  have f0 := X.br.fr 0
  have f1 := X.br.fr 1
  have f2 := X.br.fr 2
  have f3 := X.br.fr 3
  have f4 := X.br.fr 4
  have f5 := X.br.fr 5
  have f6 := X.br.fr 6
  by_cases h0 : c = 0
  case neg =>
    have q0 : (c != 0) = true := by simpa using h0
    have HY : Hid (y = (G.zero, c)) := Lib.hid (by rw [HE.out, if_pos h0])
    have HO := Lib.hid (seven_out (w := w) (wr := w2) (b := w.heap.size + 2) (x := G.zero) (by omega) X.br.lt X.bel.size X.bel (zero_in _ _))
    have HP := Lib.hid (box_cells (e := G.zero) (seven_put X.br (.int .i64 0) (.int .i64 0) (.int .i64 0) (.int .i64 0) (.string ⟨#[]⟩) (.slice none 0 0) (.slice none 0 0)))
    clear HE HK h0
    go_wp2_with fail
    obtain ⟨r0, r1, r2, r3, r4, r5, r6⟩ := HP.out
    refine bodyPost_ret (v := .tuple #[G.zero.val, .int .i64 c]) (by simp [results, Tryz.results36, go_sem, r0, r1, r2, r3, r4, r5, r6]) rfl ⟨G.zero, by rw [HY.out], (HO.out).1, by rw [HY.out]; exact zero_bare, (HO.out).2⟩
  have q0 : (c != 0) = false := by rw [h0]; rfl
  have ok := Lib.hid (HK.out h0)
  have HE2 : Hid (y = if e.any (G.unk σ) then (G.zero, 7) else if G.exC (G.repl σ e) ≠ 0 then (G.zero, G.exC (G.repl σ e)) else (G.repl σ e, 0)) := Lib.hid (by rw [HE.out, if_neg (by rw [h0]; simp)])
  clear HE HK h0
  go_wp2_with fail
  refine (C2.out _ X).mono ?_
  rintro r w3 ⟨rfl, b2⟩
  replace X := X.below b2
  clear k0 k1 k2 k3 k4 k5 k6 z0 z1 z2 z3 z4 z5 z6 f0 f1 f2 f3 f4 f5 f6 b2
  obtain ⟨k0, k1, k2, k3, k4, k5, k6⟩ := box_cells X.be
  have cs := X.bs.c
  cases hu : e.any (G.unk σ) with
  | true =>
    obtain ⟨z0, z1, z2, z3, z4, z5, z6⟩ := box_zero X.br
    have f0 := X.br.fr 0
    have f1 := X.br.fr 1
    have f2 := X.br.fr 2
    have f3 := X.br.fr 3
    have f4 := X.br.fr 4
    have f5 := X.br.fr 5
    have f6 := X.br.fr 6
    have HY : Hid (y = (G.zero, 7)) := Lib.hid (by rw [HE2.out, hu]; rfl)
    have HO := Lib.hid (seven_out (w := w) (wr := w3) (b := w.heap.size + 2) (x := G.zero) (by omega) X.br.lt X.bel.size X.bel (zero_in _ _))
    have HP := Lib.hid (box_cells (e := G.zero) (seven_put X.br (.int .i64 0) (.int .i64 0) (.int .i64 0) (.int .i64 0) (.string ⟨#[]⟩) (.slice none 0 0) (.slice none 0 0)))
    clear HE2 hu
    go_wp2_with fail
    obtain ⟨r0, r1, r2, r3, r4, r5, r6⟩ := HP.out
    refine bodyPost_ret (v := .tuple #[G.zero.val, .int .i64 7]) (by simp [results, Tryz.results36, go_sem, r0, r1, r2, r3, r4, r5, r6]) rfl ⟨G.zero, by rw [HY.out], (HO.out).1, by rw [HY.out]; exact zero_bare, (HO.out).2⟩
  | false =>
    have HE3 : Hid (y = if G.exC (G.repl σ e) ≠ 0 then (G.zero, G.exC (G.repl σ e)) else (G.repl σ e, 0)) := Lib.hid (by rw [HE2.out, hu]; rfl)
    have HR := Lib.hid (C3.out ok.out hu)
    have HS4 := Lib.hid (HS3.out ok.out hu)
    clear HE2 hu C3 HS3 C1 C2
    go_wp2_with fail
    refine (HR.out _ X).mono ?_
    rintro r w4 ⟨x, rfl, hx, hxb, b2⟩
    have X4 := X.below b2
    have b5 := al1 w4 (.cells x.box 26)
    have X5 := X4.below b5
    have hx5 := hx.below b5
    have hbx := Blk.new_ w4 x.box 26
    have HC5 := Lib.hid (expanded_any x _ (G.InS.in_ _ hx5) (G.no_badA (by rw [← G.any_bare G.mal_bare, hxb]; exact HS4.out.1) (by rw [← G.any_bare G.out_bare, hxb]; exact HS4.out.2.1)) (by rw [← G.nodes_bare, hxb]; exact HS4.out.2.2))
    have HEX : Hid (x.exC = G.exC (G.repl σ e)) := Lib.hid (by rw [← G.exC_bare, hxb])
    obtain ⟨d, hd⟩ : ∃ d, Hid (G.exC (G.repl σ e) = d) := ⟨_, Lib.hid rfl⟩
    rw [HEX.out, hd.out] at HC5
    rw [hd.out] at HE3
    clear hd HEX HR HS4 X4 b2
    go_wp2_with fail
    refine HC5.out.mono ?_
    rintro r w6 ⟨rfl, b6⟩
    have X6 := X5.below b6
    have hx6 := hx5.below b6
    have hb6 := hbx.below b6 hbx.lt
    obtain ⟨j0, j1, j2, j3, j4, j5, j6⟩ := box_cells hb6
    obtain ⟨z0, z1, z2, z3, z4, z5, z6⟩ := box_zero X6.br
    have f0 := X6.br.fr 0
    have f1 := X6.br.fr 1
    have f2 := X6.br.fr 2
    have f3 := X6.br.fr 3
    have f4 := X6.br.fr 4
    have f5 := X6.br.fr 5
    have f6 := X6.br.fr 6
    by_cases h0 : d = 0
    · have q1 : (d != 0) = false := by rw [h0]; rfl
      have HY : Hid (y = (G.repl σ e, 0)) := Lib.hid (by rw [HE3.out, if_neg (by rw [h0]; simp)])
      have HO := Lib.hid (seven_out (w := w) (wr := w3) (b := w.heap.size + 2) (x := x) (by omega) X.br.lt X.bel.size X6.bel hx6)
      have HP := Lib.hid (box_cells (e := x) (seven_put X6.br (.int .i64 x.kd) (.int .i64 x.lo) (.int .i64 x.hi) (.int .i64 x.sz) (.string x.nm) (.slice x.na x.ns.length x.nc) (.slice x.ad x.ks.length x.cap)))
      clear HE3 h0
      go_wp2_with fail
      obtain ⟨r0, r1, r2, r3, r4, r5, r6⟩ := HP.out
      refine bodyPost_ret (v := .tuple #[x.val, .int .i64 0]) (by simp [results, Tryz.results36, go_sem, r0, r1, r2, r3, r4, r5, r6]) rfl ⟨x, by rw [HY.out], (HO.out).1, by rw [HY.out]; exact hxb, (HO.out).2⟩
    · have q1 : (d != 0) = true := by simpa using h0
      have HY : Hid (y = (G.zero, d)) := Lib.hid (by rw [HE3.out, if_pos h0])
      have HO := Lib.hid (seven_out (w := w) (wr := w3) (b := w.heap.size + 2) (x := G.zero) (by omega) X.br.lt X.bel.size X6.bel (zero_in _ _))
      have HP := Lib.hid (box_cells (e := G.zero) (seven_put X6.br (.int .i64 0) (.int .i64 0) (.int .i64 0) (.int .i64 0) (.string ⟨#[]⟩) (.slice none 0 0) (.slice none 0 0)))
      clear HE3 h0
      go_wp2_with fail
      obtain ⟨r0, r1, r2, r3, r4, r5, r6⟩ := HP.out
      refine bodyPost_ret (v := .tuple #[G.zero.val, .int .i64 d]) (by simp [results, Tryz.results36, go_sem, r0, r1, r2, r3, r4, r5, r6]) rfl ⟨G.zero, by rw [HY.out], (HO.out).1, by rw [HY.out]; exact zero_bare, (HO.out).2⟩
end Go.Proofs.YtlifnabeilnblaaGreatDoor
