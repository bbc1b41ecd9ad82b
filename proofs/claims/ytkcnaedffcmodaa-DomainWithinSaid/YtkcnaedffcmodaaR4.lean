/- Walks: the reference's Unrank, Next. -/
import Derived.Test.YtkcnaedffcmodaaR3
import Derived.Deep.RegionHeld3
import Derived.Deep.AppendLies
namespace Go.Proofs.Ytkcnaedffcmodaa
open Go.RowKit Go.Maps
set_option linter.unusedVariables false

/-- a row of numbers that the call makes -/
structure OwInv (w wr : World) (v : Value) (zs : List Int) : Prop where
  own : wr.ownsRow w.heap.size 3 1 v zs.length (zvals zs)
  bel : Below w.heap.size w wr
theorem OwInv.below {w wr wx : World} {v : Value} {zs : List Int} (h : OwInv w wr v zs) (hb : Below wr.heap.size wr wx) : OwInv w wx v zs :=
  ⟨own_below h.own hb, h.bel.trans (hb.mono h.bel.size)⟩
theorem OwInv.drewN {w wr : World} {v : Value} {zs : List Int} (h : OwInv w wr v zs) (n : Nat) : OwInv w (wr.drewN n) v zs := h.below ⟨rfl, rfl, rfl, Nat.le_refl _, fun _ _ => rfl⟩
theorem OwInv.grown {w wr w3 : World} {v v' : Value} {zs : List Int} {x : Int} {o : Obj} (h : OwInv w wr v zs)
    (ho : w3.ownsRow w.heap.size 3 1 v' (zs.length + 1) (zvals zs ++ [.int .i64 x])) (hg : (wr.alloc o).grownBy w3 v.ownBlock) : OwInv w w3 v' (zs ++ [x]) where
  own := by rw [zvals_snoc, List.length_append]; exact ho
  bel := (h.bel.alloc h.bel.size o).grown hg (by have := h.bel.size; simp; omega) (fun k e => (h.own.lt k e).1)
theorem OwInv.nil (w : World) : OwInv w w (.slice none 0 0) [] := ⟨World.ownsRow_nil _ _ _ _, Below.refl _ _⟩
theorem OwInv.res {w wr : World} {v : Value} {zs : List Int} (h : OwInv w wr v zs) (hlt : ∀ x ∈ zs, -9223372036854775808 ≤ x ∧ x ≤ 9223372036854775807) : ∃ A c, v = .slice A zs.length c ∧ Ints wr wr.heap.size A zs ∧ Below w.heap.size w wr := by
  obtain ⟨A, c, hv⟩ := own_slice h.own
  have ho := h.own
  rw [hv] at ho
  exact ⟨A, c, hv, ints_of_own ho hlt, h.bel⟩

set_option maxRecDepth 100000 in

theorem OwInv.made {w w2 : World} (hb : Below w.heap.size w w2) : OwInv w (w2.alloc (.cells #[] 3)) (.slice (some ⟨w2.heap.size, 0, none⟩) 0 0) [] :=
  ⟨World.ownsRow_made (e := 3) (size := 1) (base := w.heap.size) w2 #[] 0 hb.size (by unfold maxLen; omega) rfl, bAlloc hb _⟩
namespace Kd
theorem un_take {ds : List (Int × Nat)} {r i : Nat} (h : i < ds.length) : (unL ds r).take (i + 1) = (unL ds r).take i ++ [lof ds i + (dg (cf ds) ds.length r i : Int)] := by
  have hl : i < (unL ds r).length := by rw [unL_length]; exact h
  rw [List.take_succ_eq_append_getElem hl]
  have := unL_get (r := r) h
  rw [List.getD_eq_getElem?_getD, List.getElem?_eq_getElem hl] at this
  congr 2
end Kd

set_option maxRecDepth 100000 in
set_option maxHeartbeats 2000000 in
theorem runrank_any (A : Option Addr) (c : Nat) (vs : List Kd.V) (k : Int) (r : Int) (w : World) (h : Vrs w w.heap.size A vs) (hl : vs.length ≤ 1000000) :
    Calls Try.prog 18 #[.slice A vs.length c, .int .i64 k, .int .i64 r] w (LisRes (Kd.uaX k vs r) (Kd.uaC k vs r) w) := by
  obtain ⟨i0, hi0, hz0, hz1, hz2⟩ := info_parts infoInt
  have hl48 : vs.length * 48 ≤ 140737488351232 := by omega
  by_cases hc : Kd.code k vs = 0
  · have HC := Lib.hid hc
    have HS := Lib.hid (Kd.ua_ok (r := r) hc)
    have hSp := Kd.spN_ok hc
    have hok := Lib.hid (Kd.code_ok hc).2.2
    have hB := Lib.hid (Kd.dsOf hc)
    have hll : (Kd.sel k vs).length ≤ 1000000 := Nat.le_trans (List.length_filter_le _ _) hl
    have hdl : Hid ((Kd.digs k vs).length = (Kd.sel k vs).length) := Lib.hid Kd.digs_len
    have hsp := hok.out.sp
    clear hc
    revert HS hok hB hdl hSp hsp
    generalize Kd.digs k vs = ds
    intro HS hSp hok hB hdl hsp
    obtain ⟨p, hp⟩ : ∃ p, Hid (Kd.pr ds = p) := ⟨_, Lib.hid rfl⟩
    rw [hp.out] at hsp hSp
    have HSp := Lib.hid hSp
    clear hSp
    have hr3 : (r < 0 ∨ (p : Int) ≤ r) → Hid (Kd.unX ds r = [] ∧ Kd.unC ds r = 3) := fun hh => Lib.hid (Kd.un_out (by rw [hp.out]; omega))
    have HR3 := Lib.hid hr3
    clear hr3
    go_enter Try.func18, Try.ntmps18
    go_wp2_with fail
    refine (rspace_any A c vs k w h hl48).mono ?_
    rintro e w1 ⟨rfl, hb1⟩
    rw [HC.out, HSp.out]
    by_cases h1 : r < 0
    · have HR := HR3.out (.inl h1)
      go_wp2_with fail
      go_ret2
      exact ⟨none, 0, by rw [HS.out.1, HS.out.2, HR.out.1, HR.out.2]; rfl, by rw [HS.out.1, HR.out.1]; exact Ints.nil _ _ _, hb1⟩
    by_cases h2 : (p : Int) ≤ r
    · have HR := HR3.out (.inr h2)
      go_wp2_with fail
      go_ret2
      exact ⟨none, 0, by rw [HS.out.1, HS.out.2, HR.out.1, HR.out.2]; rfl, by rw [HS.out.1, HR.out.1]; exact Ints.nil _ _ _, hb1⟩
    obtain ⟨r, rfl⟩ : ∃ n : Nat, r = (n : Int) := ⟨r.toNat, by omega⟩
    have hr1 : r < p := by omega
    have hr2 : (r : Int) < (p : Int) := by omega
    have HR : Hid (Kd.unX ds (r : Int) = Kd.unL ds r ∧ Kd.unC ds (r : Int) = 0) := Lib.hid (Kd.un_in (by rw [hp.out]; exact hr1))
    clear h1 h2 HR3
    go_wp2_with fail
    refine (of_any A c vs k _ (h.at hb1) hl48).mono ?_
    rintro e w2 ⟨A2, c2, rfl, hV, hb2⟩
    have b2 := bTrans hb1 hb2
    clear hb1 hb2 hl48
    revert hV hB hll hdl
    generalize Kd.sel k vs = l
    intro hll hB hdl hV
    go_wp2_with fail
    have I0 := OwInv.made (Below.refl w2.heap.size w2)
    go_loopw [8, 11, 12] (fun nv v iv wr => ∃ i n : Nat, i ≤ l.length ∧ iv = .int .i64 i ∧ nv = .int .i64 n ∧ n ≤ 4096 ∧ Hid (n = Kd.P (Kd.cf ds) ds.length i) ∧ OwInv w2 wr v ((Kd.unL ds r).take i)) (fun _ _ iv _ => l.length - (intOf iv).toNat)
    case atStart => exact ⟨0, p, Nat.zero_le _, rfl, rfl, by omega, Lib.hid (by rw [Kd.P_zero, ← hp.out]; rfl), I0⟩
    case round =>
      clear I0
      obtain ⟨i, n, hi, rfl, rfl, hn, hnp, I⟩ := hrel
      by_cases hlt : i < l.length
      · obtain ⟨b, off, nm, kd, lo, hi2, ini, rfl, hbb, c0, c1, c2, c3, c4, hv, hbd⟩ := (hV.below I.bel).at_ hlt
        have hltI : (i : Int) < (l.length : Int) := by omega
        obtain ⟨⟨hd1, hd2⟩, hv1, hv2, hv3⟩ := hB.out _ _ _ _ _ _ hv
        have hids : i < ds.length := by rw [hdl.out]; exact hlt
        obtain ⟨q, hq⟩ : ∃ q : Nat, Hid ((hi2 - lo + 1).toNat = q) := ⟨_, Lib.hid rfl⟩
        rw [hq.out] at hd2
        have hq1 : hi2 - lo + 1 = (q : Int) := by have := hq.out; omega
        have hnx : Hid (Kd.lof ds i = lo ∧ Kd.cf ds i = q) := Lib.hid ⟨hd1, hd2⟩
        have hq0 : 0 < q := by omega
        obtain ⟨u, hu⟩ : ∃ u : Nat, Hid (u = Kd.P (Kd.cf ds) ds.length (i + 1)) := ⟨_, Lib.hid rfl⟩
        have hu0 : 0 < u := by rw [hu.out]; exact Kd.P_pos hok.out.pos (by omega)
        have hnu : n / q = u := by rw [hnp.out, hu.out, ← hnx.out.2]; exact Kd.P_div hok.out.pos hids
        have hun : u ≤ n := by rw [← hnu]; exact Nat.div_le_self _ _
        obtain ⟨z, hz⟩ : ∃ z : Nat, Hid (r / u = z) := ⟨_, Lib.hid rfl⟩
        obtain ⟨t, ht⟩ : ∃ t : Nat, Hid (z % q = t) := ⟨_, Lib.hid rfl⟩
        have hzr : z ≤ r := by rw [← hz.out]; exact Nat.div_le_self _ _
        have htq : t < q := by rw [← ht.out]; exact Nat.mod_lt _ hq0
        have HT : Hid ((Kd.unL ds r).take (i + 1) = (Kd.unL ds r).take i ++ [lo + (t : Int)]) := Lib.hid (by
          rw [Kd.un_take hids, hnx.out.1]
          unfold Kd.dg
          rw [← hu.out, hz.out, hnx.out.2, ht.out])
        have htl : ((Kd.unL ds r).take i).length ≤ 1000000 := by rw [List.length_take, Kd.unL_length]; have := hdl.out; omega
        have hlb : -9223372036854775808 ≤ lo + (t : Int) ∧ lo + (t : Int) ≤ 9223372036854775807 := by omega
        have e0 : IntKind.i64.wrap (hi2 - lo) = hi2 - lo := IntWalk.i64_in _ (by omega)
        have e4 : IntKind.i64.wrap (hi2 - lo + 1) = (q : Int) := by rw [hq1]; exact IntWalk.i64_in _ (by omega)
        have f5 : IntKind.i64.wrap (z : Int) = (z : Int) := IntWalk.i64_in _ (by omega)
        have f6 : IntKind.i64.wrap (t : Int) = (t : Int) := IntWalk.i64_in _ (by omega)
        have f1 : ((n : Int)).tdiv (q : Int) = (u : Int) := by rw [← hnu, ← Int.ofNat_tdiv]
        have f1' : (n : Int) / (q : Int) = (u : Int) := by rw [← hnu]; rfl
        have f2 : ((r : Int)).tdiv (u : Int) = (z : Int) := by rw [← hz.out, ← Int.ofNat_tdiv]
        have f3 : ((z : Int)).tmod (q : Int) = (t : Int) := by rw [← ht.out, ← Int.ofNat_tmod]
        have f4 : IntKind.i64.wrap (lo + (t : Int)) = lo + (t : Int) := IntWalk.i64_in _ (by omega)
        have hqz : ((q : Int) == 0) = false := by simp; omega
        have huz : ((u : Int) == 0) = false := by simp; omega
        have hqz1 : (q : Int) ≠ 0 := by omega
        have huz1 : (u : Int) ≠ 0 := by omega
        revert I HT htl
        generalize (Kd.unL ds r).take i = zs
        intro I HT htl
        obtain ⟨A', c', rfl⟩ := own_sliceN I.own
        have hr0 : ¬ (r : Int) < 0 := by omega
        clear hd1 hd2 hq1 hnu
        go_wp2_with fail
        go_quiet (fail)
        have bq : Below wr.heap.size wr (wr.drewN nq) := bDrew (Below.refl _ _) nq
        have I5 := I.below bq
        replace c2 : (wr.drewN nq).cell? ⟨b, off + i * 5 + 2, none⟩ = _ := c2
        clear c0 c1 c3 c4 I bq e0 e4
        generalize wr.drewN nq = w6 at *
        go_wp2_with fail
        have hu2 : u ≠ 0 := by omega
        have hq2 : q ≠ 0 := by omega
        have ho := I5.own
        have hbs := I5.bel.size
        have k1 : ∀ o, (w6.drew.alloc o).cell? ⟨b, off + i * 5 + 2, none⟩ = some (.int .i64 lo) := fun o => (World.cell?_alloc_lt w6.drew o _ (by show b < w6.heap.size; omega)).trans c2
        go_region_held3 (fun w' => w'.cell? ⟨b, off + i * 5 + 2, none⟩ = some (.int .i64 lo)) (first | exact c2 | exact k1 _ | exact kg)
          ((refine step_append_lies _ (by rfl) _ _ 29 (by rfl) w2.heap.size 3 i0 (.int .i64 0) 1 8 Try.underlying29 hi0 hz0 hz1 hz2 (by decide) (by decide) _ _ _ (by rfl) (ho.alloc _) ⟨w6.heap.size, 0, none⟩ 1 1 [.int .i64 (lo + (t : Int))] (by rfl) (by rfl) (cell_one_new _ _ _) (fun u hu => by simp at hu; subst hu; rfl) (by decide) (by unfold maxLen; omega) (by omega) (by simp; omega) _ rfl ?_; intro g cap w8 hown8 hgrow hat hlt8; have kg := (hgrow.cell_far ⟨b, off + i * 5 + 2, none⟩ (by simp; omega) (by intro e; have := (ho.lt _ e.symm).1; simp at this; omega)).trans (k1 _)))
        have I8 : OwInv w2 w8 (.slice (some ⟨g, 0, none⟩) (zs.length + 1) cap) (zs ++ [lo + (t : Int)]) := OwInv.grown (show OwInv w2 w6.drew _ zs from I5.drewN 1) hown8 hgrow
        have HU : Hid (u = Kd.P (Kd.cf ds) ds.length (i + 1)) := hu
        clear f1 f1' f2 f3 f4 f5 f6 kg k1 c2 hown8 hgrow hat hlt8 ho I5 hqz huz hqz1 huz1 hu2 hq2
        go_wp2_with fail
        go_roundw
        case rel => exact ⟨i + 1, u, by omega, by go_num, rfl, by omega, HU, by rw [HT.out]; exact I8⟩
        case measure => simp [intOf]; omega
      · obtain rfl : i = l.length := by omega
        rw [show (Kd.unL ds r).take l.length = Kd.unL ds r by rw [← hdl.out, ← Kd.unL_length (r := r), List.take_length]] at I
        obtain ⟨A', c', rfl, hI, hB⟩ := I.res fun x hx => by have := Kd.un_bd hok.out x hx; omega
        go_wp2_with fail
        go_ret2
        exact ⟨A', c', by rw [HS.out.1, HS.out.2, HR.out.1, HR.out.2]; rfl, by rw [HS.out.1, HR.out.1]; exact hI, bTrans b2 hB⟩
  · have HC := Lib.hid hc
    have HS := Lib.hid (Kd.ua_bad (r := r) hc)
    have hne : (Kd.code k vs != 0) = true := by simpa using hc
    clear hc
    go_enter Try.func18, Try.ntmps18
    go_wp2_with fail
    refine (rspace_any A c vs k w h hl48).mono ?_
    rintro e w1 ⟨rfl, hb1⟩
    go_wp2_with fail
    go_ret2
    exact ⟨none, 0, by rw [HS.out.1, HS.out.2]; rfl, by rw [HS.out.1]; exact Ints.nil _ _ _, hb1⟩

set_option maxRecDepth 100000 in
set_option maxHeartbeats 1000000 in
theorem rnext_any (A : Option Addr) (c : Nat) (vs : List Kd.V) (k : Int) (B : Option Addr) (cb : Nat) (xs : List Int) (w : World) (h : Vrs w w.heap.size A vs) (hl : vs.length ≤ 1000000) (hx : Ints w w.heap.size B xs) :
    Calls Try.prog 20 #[.slice A vs.length c, .int .i64 k, .slice B xs.length cb] w (NexRes (Kd.neX k vs xs) (Kd.neM k vs xs) (Kd.raC k vs xs) w) := by
  by_cases hr : Kd.raC k vs xs = 0
  · obtain ⟨hc, hr2⟩ := Kd.ra_zero hr
    obtain ⟨n, hn1, hn2, _⟩ := Kd.rk_num hr2
    have HN := Lib.hid (Kd.ne_ok hr)
    have hra : Hid (Kd.raN k vs xs = (n : Int)) := Lib.hid (by rw [(Kd.ra_ok hc).1, hn1])
    have hn4 : n ≤ 4096 := by have := (Kd.code_ok hc).2.2.sp; omega
    have HR := Lib.hid hr
    clear hr hr2 hc hn1 hn2
    go_enter Try.func20, Try.ntmps20
    go_wp2_with fail
    refine (rrank_any A c vs k B cb xs w h hl hx).mono ?_
    rintro e w1 ⟨rfl, hb1⟩
    rw [HR.out, hra.out]
    go_wp2_with fail
    refine (runrank_any A c vs k ((n : Int) + 1) _ (h.at hb1) hl).mono ?_
    rintro e w2 ⟨A2, c2, rfl, hI, hb2⟩
    go_wp2_with fail
    go_returns
    exact ⟨A2, c2, by rw [HN.out.1, HN.out.2, hra.out, HR.out]; rfl, by rw [HN.out.1, hra.out]; exact hI, bTrans hb1 hb2⟩
  · have HN := Lib.hid (Kd.ne_bad hr)
    have hne : (Kd.raC k vs xs != 0) = true := by simpa using hr
    clear hr
    go_enter Try.func20, Try.ntmps20
    go_wp2_with fail
    refine (rrank_any A c vs k B cb xs w h hl hx).mono ?_
    rintro e w1 ⟨rfl, hb1⟩
    go_wp2_with fail
    go_returns
    exact ⟨none, 0, by rw [HN.out.1, HN.out.2]; rfl, by rw [HN.out.1]; exact Ints.nil _ _ _, hb1⟩
end Go.Proofs.Ytkcnaedffcmodaa
