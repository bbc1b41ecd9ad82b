/- Walks: the reference's Rank. -/
import Derived.Test.YtkcnaedffcmodaaR2
namespace Go.Proofs.Ytkcnaedffcmodaa
open Go.RowKit Go.Maps
set_option linter.unusedVariables false

namespace Kd
theorem isv_dig {k : Int} {vs : List V} {i : Nat} {nm : ByteArray} {kd lo hi ini : Int} (h : IsV (sel k vs) i nm kd lo hi ini) : lof (digs k vs) i = lo ∧ cf (digs k vs) i = (hi - lo + 1).toNat := by
  obtain ⟨hk, e⟩ := h.eq
  have := digs_at hk
  unfold digs
  rw [this.1, this.2, e]; exact ⟨rfl, rfl⟩
/-- the bounds of a variable where all is well -/
theorem isv_bd {k : Int} {vs : List V} {i : Nat} {nm : ByteArray} {kd lo hi ini : Int} (h : IsV (sel k vs) i nm kd lo hi ini) (hc : code k vs = 0) : -1048576 ≤ lo ∧ lo ≤ hi ∧ hi ≤ 1048576 := by
  have hb := dig_bd ((code_ok hc).2.1 _ h.mem)
  exact ⟨hb.1, hb.2.1, hb.2.2.1⟩
/-- the digits of a list of variables that are all well -/
def DsOf (l : List V) (ds : List (Int × Nat)) : Prop := ∀ i nm kd lo hi ini, IsV l i nm kd lo hi ini → (lof ds i = lo ∧ cf ds i = (hi - lo + 1).toNat) ∧ -1048576 ≤ lo ∧ lo ≤ hi ∧ hi ≤ 1048576
theorem dsOf {k : Int} {vs : List V} (hc : code k vs = 0) : DsOf (sel k vs) (digs k vs) := fun _ _ _ _ _ _ h => ⟨isv_dig h, isv_bd h hc⟩
end Kd

set_option maxRecDepth 100000 in
set_option maxHeartbeats 2000000 in
theorem rrank_any (A : Option Addr) (c : Nat) (vs : List Kd.V) (k : Int) (B : Option Addr) (cb : Nat) (xs : List Int) (w : World) (h : Vrs w w.heap.size A vs) (hl : vs.length ≤ 1000000) (hx : Ints w w.heap.size B xs) :
    Calls Try.prog 15 #[.slice A vs.length c, .int .i64 k, .slice B xs.length cb] w (NumRes (Kd.raN k vs xs) (Kd.raC k vs xs) w) := by
  have hl48 : vs.length * 48 ≤ 140737488351232 := by omega
  by_cases hc : Kd.code k vs = 0
  · have HC := Lib.hid hc
    have HS := Lib.hid (Kd.ra_ok (xs := xs) hc)
    have HSp := Lib.hid (Kd.spN_ok hc)
    have hok := Lib.hid (Kd.code_ok hc).2.2
    have hB := Lib.hid (Kd.dsOf hc)
    have hll : (Kd.sel k vs).length ≤ 1000000 := Nat.le_trans (List.length_filter_le _ _) hl
    have hdl : Hid ((Kd.digs k vs).length = (Kd.sel k vs).length) := Lib.hid Kd.digs_len
    clear hc
    revert HS hok hB hdl
    generalize Kd.digs k vs = ds
    intro HS hok hB hdl
    go_enter Try.func15, Try.ntmps15
    go_wp2_with fail
    refine (rspace_any A c vs k w h hl48).mono ?_
    rintro e w1 ⟨rfl, hb1⟩
    rw [HC.out]
    go_wp2_with fail
    refine (of_any A c vs k _ (h.at hb1) hl48).mono ?_
    rintro e w2 ⟨A2, c2, rfl, hV, hb2⟩
    have b2 := bTrans hb1 hb2
    clear hb1 hb2 hl48
    revert hV hB hll hdl
    generalize Kd.sel k vs = l
    intro hll hB hdl hV
    by_cases hlen : l.length = xs.length
    · have hne : ((l.length : Int) != (xs.length : Int)) = false := by simp; omega
      have hne2 : (l.length != xs.length) = false := by simp; omega
      have HL := Lib.hid hlen
      have HXL : Hid (xs.length = ds.length) := Lib.hid (by have := hdl.out; omega)
      clear hlen
      go_wp2_with fail
      go_loopw [11, 12] (fun nv iv wr => ∃ i r : Nat, i ≤ l.length ∧ iv = .int .i64 i ∧ nv = .int .i64 r ∧ r ≤ 4096 ∧ Hid (Kd.inR ds xs i = true ∧ r = Kd.rk ds xs i) ∧ Vrs wr wr.heap.size A2 l ∧ Below w.heap.size w wr) (fun _ iv _ => l.length - (intOf iv).toNat)
      case atStart => exact ⟨0, 0, Nat.zero_le _, rfl, rfl, by omega, Lib.hid ⟨rfl, rfl⟩, hV, b2⟩
      case round =>
        clear hV b2
        obtain ⟨i, r, hi, rfl, rfl, hr, hin, hV, hb⟩ := hrel
        by_cases hlt : i < l.length
        · obtain ⟨b, off, nm, kd, lo, hi2, ini, rfl, hbb, c0, c1, c2, c3, c4, hv, hbd⟩ := hV.at_ hlt
          have hltI : (i : Int) < (l.length : Int) := by omega
          obtain ⟨b2, off2, x, rfl, hb2, cx, hxx⟩ := (hx.below hb).at_ (k := i) (by have := HL.out; omega)
          have hltx : (i : Int) < (xs.length : Int) := by have := HL.out; omega
          obtain ⟨⟨hd1, hd2⟩, hv1, hv2, hv3⟩ := hB.out _ _ _ _ _ _ hv
          have hids : i < ds.length := by rw [hdl.out]; exact hlt
          obtain ⟨q, hq⟩ : ∃ q : Nat, Hid ((hi2 - lo + 1).toNat = q) := ⟨_, Lib.hid rfl⟩
          rw [hq.out] at hd2
          have hq1 : hi2 - lo + 1 = (q : Int) := by have := hq.out; omega
          have hnx : Hid (Kd.lof ds i = lo ∧ Kd.cf ds i = q ∧ xs.getD i 0 = x) := Lib.hid ⟨hd1, hd2, hxx.out.1.symm⟩
          clear hd1 hd2
          have bq : ∀ q, Below wr.heap.size wr (wr.drewN q) := fun q => bDrew (Below.refl _ _) q
          have HBQ := Lib.hid bq
          clear bq
          by_cases g1 : x < lo
          · have HR := Lib.hid (Kd.rk_out HXL.out (Kd.inR_bad (i := i) (xs := xs) hids (by rw [hnx.out.1, hnx.out.2.1, hnx.out.2.2]; omega)))
            have g1' : decide (x < lo) = true := decide_eq_true g1
            go_wp2_with fail
            go_quiet (fail)
            go_wp2_with fail
            go_ret2
            exact ⟨by rw [HS.out.1, HS.out.2, HR.out.1, HR.out.2]; rfl, bTrans hb (HBQ.out _)⟩
          by_cases g2 : hi2 < x
          · have HR := Lib.hid (Kd.rk_out HXL.out (Kd.inR_bad (i := i) (xs := xs) hids (by rw [hnx.out.1, hnx.out.2.1, hnx.out.2.2]; omega)))
            have g1' : decide (x < lo) = false := decide_eq_false g1
            have g2' : decide (hi2 < x) = true := decide_eq_true g2
            go_wp2_with fail
            go_quiet (fail)
            go_wp2_with fail
            go_ret2
            exact ⟨by rw [HS.out.1, HS.out.2, HR.out.1, HR.out.2]; rfl, bTrans hb (HBQ.out _)⟩
          have g1' : decide (x < lo) = false := decide_eq_false g1
          have g2' : decide (hi2 < x) = false := decide_eq_false g2
          have hin2 : Kd.inR ds xs (i + 1) = true := Kd.inR_succ hin.out.1 (by rw [hnx.out.1, hnx.out.2.1, hnx.out.2.2]; omega)
          have hrk : Kd.rk ds xs (i + 1) = r * q + (x - lo).toNat := by
            rw [Kd.rk_succ, ← hin.out.2, hnx.out.2.1]
            unfold Kd.ofs
            rw [hnx.out.1, hnx.out.2.2]
          have hle := Kd.rk_le hok.out hin2 (show i + 1 ≤ ds.length by omega)
          obtain ⟨m, hm⟩ : ∃ m : Nat, Hid (m = r * q) := ⟨_, Lib.hid rfl⟩
          rw [← hm.out] at hrk
          obtain ⟨s, hs⟩ : ∃ s : Nat, Hid (s = Kd.rk ds xs (i + 1)) := ⟨_, Lib.hid rfl⟩
          have HS2 : Hid (Kd.inR ds xs (i + 1) = true ∧ s = Kd.rk ds xs (i + 1)) := Lib.hid ⟨hin2, hs.out⟩
          rw [← hs.out] at hrk hle
          have hsx : (s : Int) = (m : Int) + x - lo := by omega
          have hs4 : s ≤ 4096 := by omega
          have hmq : (r : Int) * (q : Int) = (m : Int) := by rw [hm.out]; simp
          have e0 : IntKind.i64.wrap (hi2 - lo) = hi2 - lo := IntWalk.i64_in _ (by omega)
          have e4 : IntKind.i64.wrap (hi2 - lo + 1) = (q : Int) := by rw [hq1]; exact IntWalk.i64_in _ (by omega)
          have e3 : IntKind.i64.wrap ((m : Int) + x - lo) = (s : Int) := by rw [← hsx]; exact IntWalk.i64_in _ (by omega)
          have e2 : IntKind.i64.wrap ((m : Int) + x) = (m : Int) + x := IntWalk.i64_in _ (by omega)
          have e1 : IntKind.i64.wrap ((r : Int) * (q : Int)) = (m : Int) := by rw [hmq]; exact IntWalk.i64_in _ (by omega)
          clear hrk hmq hsx hin2 hq1
          have V2 := hV.at (HBQ.out 0)
          go_wp2_with fail
          go_quiet (fail)
          have b5 := bTrans hb (HBQ.out nq)
          have V5 := hV.at (HBQ.out nq)
          replace c2 : (wr.drewN nq).cell? ⟨b, off + i * 5 + 2, none⟩ = _ := c2
          replace c3 : (wr.drewN nq).cell? ⟨b, off + i * 5 + 3, none⟩ = _ := c3
          replace cx : (wr.drewN nq).cell? ⟨b2, off2 + i, none⟩ = _ := cx
          clear c0 c1 c4 hV hb HBQ V2 hbb
          generalize wr.drewN nq = w6 at *
          go_wp2_with fail
          go_quiet (fail)
          clear e0 e1 e2 e3 e4
          have bq : Below w6.heap.size w6 (w6.drewN nq) := bDrew (Below.refl _ _) nq
          go_wp2_with fail
          go_roundw
          case rel => exact ⟨i + 1, s, by omega, by go_num, rfl, hs4, HS2, V5.at bq, bTrans b5 bq⟩
          case measure => simp [intOf]; omega
        · obtain rfl : i = l.length := by omega
          have hr1 := hin.out
          rw [← hdl.out] at hr1
          have HR := Lib.hid (Kd.rk_ok HXL.out hr1.1)
          have HRR := Lib.hid hr1.2
          clear hr1
          go_wp2_with fail
          go_ret2
          exact ⟨by rw [HS.out.1, HS.out.2, HR.out.1, HR.out.2, ← HRR.out]; rfl, hb⟩
    · have hne : ((l.length : Int) != (xs.length : Int)) = true := by simp; omega
      have hne2 : (l.length != xs.length) = true := by simp; omega
      have HR := Lib.hid (Kd.rk_len (ds := ds) (xs := xs) (by have := hdl.out; omega))
      clear hlen
      go_wp2_with fail
      go_ret2
      exact ⟨by rw [HS.out.1, HS.out.2, HR.out.1, HR.out.2]; rfl, b2⟩
  · have HC := Lib.hid hc
    have HS := Lib.hid (Kd.ra_bad (xs := xs) hc)
    have hne : (Kd.code k vs != 0) = true := by simpa using hc
    clear hc
    go_enter Try.func15, Try.ntmps15
    go_wp2_with fail
    refine (rspace_any A c vs k w h hl48).mono ?_
    rintro e w1 ⟨rfl, hb1⟩
    go_wp2_with fail
    go_ret2
    exact ⟨by rw [HS.out.1, HS.out.2]; rfl, hb1⟩
end Go.Proofs.Ytkcnaedffcmodaa
