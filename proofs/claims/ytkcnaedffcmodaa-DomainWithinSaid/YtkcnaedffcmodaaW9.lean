/- Walks: Within of both. -/
import Derived.Test.YtkcnaedffcmodaaW8
namespace Go.Proofs.Ytkcnaedffcmodaa
open Go.RowKit Go.Maps
set_option linter.unusedVariables false

namespace Kd
def wiC (k : Int) (vs : List V) (lo hi : List Int) : Int := if code k vs = 0 then (if lo.length = (digs k vs).length ∧ hi.length = (digs k vs).length then 0 else 2) else code k vs
def wiX (k : Int) (vs : List V) (lo hi : List Int) : List Int := if code k vs = 0 then (if lo.length = (digs k vs).length ∧ hi.length = (digs k vs).length then nats (win (digs k vs) lo hi) else []) else []
theorem wi_bad {k : Int} {vs : List V} {lo hi : List Int} (h : code k vs ≠ 0) : wiX k vs lo hi = [] ∧ wiC k vs lo hi = code k vs := ⟨if_neg h, if_neg h⟩
theorem wi_len {k : Int} {vs : List V} {lo hi : List Int} (h : code k vs = 0) (h2 : ¬ (lo.length = (digs k vs).length ∧ hi.length = (digs k vs).length)) : wiX k vs lo hi = [] ∧ wiC k vs lo hi = 2 := by
  unfold wiX wiC
  rw [if_pos h, if_neg h2, if_pos h, if_neg h2]; exact ⟨rfl, rfl⟩
theorem wi_ok {k : Int} {vs : List V} {lo hi : List Int} (h : code k vs = 0) (h2 : lo.length = (digs k vs).length ∧ hi.length = (digs k vs).length) : wiX k vs lo hi = nats (win (digs k vs) lo hi) ∧ wiC k vs lo hi = 0 := by
  unfold wiX wiC
  rw [if_pos h, if_pos h2, if_pos h, if_pos h2]; exact ⟨rfl, rfl⟩
theorem ins_inB {ds : List (Int × Nat)} {lo hi : List Int} {r : Nat} : insB (unL ds r) lo hi ds.length = inB (cf ds) (bx ds lo hi) ds.length r := by
  unfold insB inB
  rw [Bool.eq_iff_iff, List.all_eq_true, List.all_eq_true]
  constructor
  · intro h i hi'
    have := h i hi'
    rw [unL_get (List.mem_range.1 hi')] at this
    exact this
  · intro h i hi'
    rw [unL_get (List.mem_range.1 hi')]
    exact h i hi'
/-- the numbers below r of the vectors in the box -/
def wn (ds : List (Int × Nat)) (lo hi : List Int) (r : Nat) : List Nat := (List.range r).filter (inB (cf ds) (bx ds lo hi) ds.length)
theorem wn_end {ds : List (Int × Nat)} {lo hi : List Int} : wn ds lo hi (pr ds) = win ds lo hi := rfl
theorem wn_yes {ds : List (Int × Nat)} {lo hi : List Int} {r : Nat} (h : inB (cf ds) (bx ds lo hi) ds.length r = true) : wn ds lo hi (r + 1) = wn ds lo hi r ++ [r] := by
  unfold wn; rw [List.range_succ, List.filter_append]; simp [h]
theorem wn_no {ds : List (Int × Nat)} {lo hi : List Int} {r : Nat} (h : inB (cf ds) (bx ds lo hi) ds.length r = false) : wn ds lo hi (r + 1) = wn ds lo hi r := by
  unfold wn; rw [List.range_succ, List.filter_append]; simp [h]
theorem wn_len {ds : List (Int × Nat)} {lo hi : List Int} {r : Nat} : (wn ds lo hi r).length ≤ r := by
  unfold wn
  refine Nat.le_trans (List.length_filter_le _ _) ?_
  rw [List.length_range]; exact Nat.le_refl _
end Kd

set_option maxRecDepth 100000 in
set_option maxHeartbeats 1000000 in
theorem within_all (A : Option Addr) (c : Nat) (vs : List Kd.V) (k : Int) (B : Option Addr) (cb : Nat) (lo : List Int) (D : Option Addr) (cd : Nat) (hi : List Int) (w : World) (h : Vrs w w.heap.size A vs) (hl : vs.length ≤ 1000000) (hlo : Ints w w.heap.size B lo) (hhi : Ints w w.heap.size D hi) :
    Calls Try.prog 23 #[.slice A vs.length c, .int .i64 k, .slice B lo.length cb, .slice D hi.length cd] w (LisRes (Kd.wiX k vs lo hi) (Kd.wiC k vs lo hi) w) := by
  by_cases hc : Kd.code k vs = 0
  · have HC := Lib.hid hc
    have hok := Lib.hid (Kd.code_ok hc).2.2
    have hdl : (Kd.digs k vs).length ≤ 1000000 := Nat.le_trans Kd.digs_le hl
    have HY := Lib.hid (fun h2 => Kd.wi_ok (lo := lo) (hi := hi) hc h2)
    have HN := Lib.hid (fun h2 => Kd.wi_len (lo := lo) (hi := hi) hc h2)
    clear hc
    revert hok hdl HY HN
    generalize Kd.wiX k vs lo hi = X
    generalize Kd.wiC k vs lo hi = C
    intro hok hdl HY HN
    go_enter Try.func23, Try.ntmps23
    go_wp2_with fail
    refine (dom_ok A c vs k w h hl HC.out).mono ?_
    rintro e w1 ⟨A', c', rfl, hD, hb⟩
    revert hD hok hdl HY HN
    generalize Kd.digs k vs = ds
    intro hok hdl HY HN hD
    have b1 := newB1 w1 (.cells #[.slice A' ds.length c', .int .i64 (Kd.pr ds : Nat)] 54)
    have B1 := bTrans hb b1
    have hlo1 := (hlo.at hb).at b1
    have hhi1 := (hhi.at hb).at b1
    unfold domV
    by_cases hg1 : lo.length = ds.length
    · by_cases hg2 : hi.length = ds.length
      · have g1 : ((lo.length : Int) != (ds.length : Int)) = false := by simp; omega
        have g1' : (lo.length != ds.length) = false := by simp; omega
        have g2 : ((hi.length : Int) != (ds.length : Int)) = false := by simp; omega
        have g2' : (hi.length != ds.length) = false := by simp; omega
        have HR := Lib.hid (HY.out ⟨hg1, hg2⟩)
        have HG1 := Lib.hid hg1
        have HG2 := Lib.hid hg2
        clear hg1 hg2
        go_wp2_with fail
        refine (within_any A' c' ds _ B cb lo D cd hi _ (hD.at b1) hok.out hdl hlo1 hhi1 HG1.out HG2.out).mono ?_
        rintro e w2 ⟨A2, c2, rfl, hI, hb2⟩
        go_wp2_with fail
        go_ret2
        exact ⟨A2, c2, by rw [HR.out.1, HR.out.2]; rfl, by rw [HR.out.1]; exact hI, bTrans B1 hb2⟩
      · have g1 : ((lo.length : Int) != (ds.length : Int)) = false := by simp; omega
        have g1' : (lo.length != ds.length) = false := by simp; omega
        have g2 : ((hi.length : Int) != (ds.length : Int)) = true := by simp; omega
        have g2' : (hi.length != ds.length) = true := by simp; omega
        have HR := Lib.hid (HN.out fun hh => hg2 hh.2)
        clear hg1 hg2
        go_wp2_with fail
        go_ret2
        exact ⟨none, 0, by rw [HR.out.1, HR.out.2]; rfl, by rw [HR.out.1]; exact Ints.nil _ _ _, B1⟩
    · have g1 : ((lo.length : Int) != (ds.length : Int)) = true := by simp; omega
      have g1' : (lo.length != ds.length) = true := by simp; omega
      have HR := Lib.hid (HN.out fun hh => hg1 hh.1)
      clear hg1
      go_wp2_with fail
      go_ret2
      exact ⟨none, 0, by rw [HR.out.1, HR.out.2]; rfl, by rw [HR.out.1]; exact Ints.nil _ _ _, B1⟩
  · have HC := Lib.hid hc
    have HS := Lib.hid (Kd.wi_bad (lo := lo) (hi := hi) hc)
    have hne : (Kd.code k vs != 0) = true := by simpa using hc
    clear hc
    go_enter Try.func23, Try.ntmps23
    go_wp2_with fail
    refine (dom_bad A c vs k w h hl HC.out).mono ?_
    rintro e w1 ⟨rfl, hb⟩
    unfold domV
    go_wp2_with fail
    go_ret2
    exact ⟨none, 0, by rw [HS.out.1, HS.out.2]; rfl, by rw [HS.out.1]; exact Ints.nil _ _ _, bAlloc hb _⟩

set_option maxRecDepth 100000 in
set_option maxHeartbeats 2000000 in
theorem rwithin_any (A : Option Addr) (c : Nat) (vs : List Kd.V) (k : Int) (B : Option Addr) (cb : Nat) (lo : List Int) (D : Option Addr) (cd : Nat) (hi : List Int) (w : World) (h : Vrs w w.heap.size A vs) (hl : vs.length ≤ 1000000) (hlo : Ints w w.heap.size B lo) (hhi : Ints w w.heap.size D hi) :
    Calls Try.prog 24 #[.slice A vs.length c, .int .i64 k, .slice B lo.length cb, .slice D hi.length cd] w (LisRes (Kd.wiX k vs lo hi) (Kd.wiC k vs lo hi) w) := by
  obtain ⟨i0, hi0, hz0, hz1, hz2⟩ := info_parts infoInt
  have hl48 : vs.length * 48 ≤ 140737488351232 := by omega
  by_cases hc : Kd.code k vs = 0
  · have HC := Lib.hid hc
    have hok := Lib.hid (Kd.code_ok hc).2.2
    have HSp := Lib.hid (Kd.spN_ok hc)
    have HU := Lib.hid (fun r (hr : r < Kd.pr (Kd.digs k vs)) => (⟨(Kd.ua_ok (r := (r : Int)) hc).1.trans (Kd.un_in hr).1, (Kd.ua_ok (r := (r : Int)) hc).2.trans (Kd.un_in hr).2⟩ : Kd.uaX k vs (r : Int) = Kd.unL (Kd.digs k vs) r ∧ Kd.uaC k vs (r : Int) = 0))
    have hdl : (Kd.digs k vs).length ≤ 1000000 := Nat.le_trans Kd.digs_le hl
    have hsl : Hid ((Kd.sel k vs).length = (Kd.digs k vs).length) := Lib.hid Kd.digs_len.symm
    have HY := Lib.hid (fun h2 => Kd.wi_ok (lo := lo) (hi := hi) hc h2)
    have HN := Lib.hid (fun h2 => Kd.wi_len (lo := lo) (hi := hi) hc h2)
    clear hc
    revert hok hdl HY HN HSp HU hsl
    generalize Kd.wiX k vs lo hi = X
    generalize Kd.wiC k vs lo hi = C
    generalize Kd.digs k vs = ds
    intro hok HSp HU hdl hsl HY HN
    go_enter Try.func24, Try.ntmps24
    go_wp2_with fail
    refine (rspace_any A c vs k w h hl48).mono ?_
    rintro e w1 ⟨rfl, hb1⟩
    rw [HC.out, HSp.out]
    go_wp2_with fail
    refine (of_any A c vs k _ (h.at hb1) hl48).mono ?_
    rintro e w2 ⟨A2, c2, rfl, hV, hb2⟩
    rw [hsl.out]
    have B2 := bTrans hb1 hb2
    have h2 := h.at B2
    have hlo2 := hlo.at B2
    have hhi2 := hhi.at B2
    clear hV hb1 hb2
    by_cases hg1 : lo.length = ds.length
    · by_cases hg2 : hi.length = ds.length
      · have g1 : ((lo.length : Int) != (ds.length : Int)) = false := by simp; omega
        have g1' : (lo.length != ds.length) = false := by simp; omega
        have g2 : ((hi.length : Int) != (ds.length : Int)) = false := by simp; omega
        have g2' : (hi.length != ds.length) = false := by simp; omega
        have HR := Lib.hid (HY.out ⟨hg1, hg2⟩)
        have HG1 := Lib.hid hg1
        have HG2 := Lib.hid hg2
        clear hg1 hg2
        obtain ⟨p, hp⟩ : ∃ p, Hid (Kd.pr ds = p) := ⟨_, Lib.hid rfl⟩
        have hp4 : p ≤ 4096 := by rw [← hp.out]; exact hok.out.sp
        rw [hp.out]
        have I0 := OwInv.made (Below.refl w2.heap.size w2)
        go_wp2_with fail
        go_loopw [13, 14] (fun v rv wr => ∃ r : Nat, r ≤ p ∧ rv = .int .i64 r ∧ OwInv w2 wr v (nats (Kd.wn ds lo hi r))) (fun _ rv _ => p - (intOf rv).toNat)
        case atStart => exact ⟨0, Nat.zero_le _, rfl, I0⟩
        case round =>
          clear I0
          obtain ⟨r, hr1, rfl, I⟩ := hrel
          by_cases hlt : r < p
          · have hltI : (r : Int) < (p : Int) := by omega
            have hun := HU.out r (by rw [hp.out]; exact hlt)
            have HUN := Lib.hid hun
            clear hun
            go_wp2_with fail
            refine (runrank_any A c vs k (r : Int) _ (h2.at I.bel) hl).mono ?_
            rintro e w3 ⟨A3, c3, rfl, I3, b3⟩
            rw [HUN.out.1] at I3 ⊢
            rw [HUN.out.2]
            have J := I.below b3
            clear I b3
            go_wp2_with fail
            refine (inside_any A3 B D c3 cb cd (Kd.unL ds r) lo hi _ I3 (hlo2.at J.bel) (hhi2.at J.bel) (by rw [Kd.unL_length, HG1.out]) (by rw [Kd.unL_length, HG2.out]) (by rw [Kd.unL_length]; exact hdl)).mono ?_
            rintro e w4 ⟨rfl, b4⟩
            have K := J.below b4
            clear J b4 I3
            rw [Kd.unL_length, Kd.ins_inB]
            cases hin : Kd.inB (Kd.cf ds) (Kd.bx ds lo hi) ds.length r with
            | true =>
              have HW := Lib.hid (Kd.wn_yes hin)
              have hwl := Kd.wn_len (ds := ds) (lo := lo) (hi := hi) (r := r)
              clear hin
              have HNL : Hid (nats (Kd.wn ds lo hi (r + 1)) = nats (Kd.wn ds lo hi r) ++ [(r : Int)]) := Lib.hid (by rw [HW.out, nats_append]; rfl)
              rw [← nats_length] at hwl
              revert K HNL hwl
              generalize nats (Kd.wn ds lo hi r) = zs
              intro K hwl HNL
              have hbs := K.bel.size
              go_wp2_with (at_builtin; refine wpList_append_own _ rfl _ _ 29 rfl w2.heap.size 3 i0 (.int .i64 0) 1 8 Try.underlying29 hi0 hz0 hz1 hz2 rfl (by decide) _ _ _ rfl (K.own.alloc _) ⟨w4.heap.size, 0, none⟩ 1 1 [.int .i64 (r : Int)] rfl rfl ?c1 ?c2 ?c3 ?c4 ?c5 ?_)
              case c1 => exact cell_one_new _ _ _
              case c2 => intro u hu; simp at hu; subst hu; rfl
              case c3 => unfold maxLen; omega
              case c4 => omega
              case c5 => simp; omega
              intro v' w5 hown' hgrow _
              have K3 := OwInv.grown K hown' hgrow
              rw [← HNL.out] at K3
              clear hown' hgrow K
              go_wp2_with fail
              go_roundw
              case rel => exact ⟨r + 1, by omega, by go_num, K3⟩
              case measure => simp [intOf]; omega
            | false =>
              have HW := Lib.hid (Kd.wn_no hin)
              clear hin
              go_wp2_with fail
              go_roundw
              case rel => exact ⟨r + 1, by omega, by go_num, by rw [HW.out]; exact K⟩
              case measure => simp [intOf]; omega
          · obtain rfl : r = p := by omega
            obtain ⟨A', c', rfl, hI, hB⟩ := I.res (nats_bd fun x hx => by
              have := List.mem_range.1 (List.mem_filter.1 hx).1
              omega)
            have HX : Hid (X = nats (Kd.wn ds lo hi r) ∧ C = 0) := Lib.hid (by rw [HR.out.1, HR.out.2, ← hp.out]; exact ⟨rfl, rfl⟩)
            go_wp2_with fail
            go_ret2
            exact ⟨A', c', by rw [HX.out.1, HX.out.2]; rfl, by rw [HX.out.1]; exact hI, bTrans B2 hB⟩
      · have g1 : ((lo.length : Int) != (ds.length : Int)) = false := by simp; omega
        have g1' : (lo.length != ds.length) = false := by simp; omega
        have g2 : ((hi.length : Int) != (ds.length : Int)) = true := by simp; omega
        have g2' : (hi.length != ds.length) = true := by simp; omega
        have HR := Lib.hid (HN.out fun hh => hg2 hh.2)
        clear hg1 hg2
        go_wp2_with fail
        go_ret2
        exact ⟨none, 0, by rw [HR.out.1, HR.out.2]; rfl, by rw [HR.out.1]; exact Ints.nil _ _ _, B2⟩
    · have g1 : ((lo.length : Int) != (ds.length : Int)) = true := by simp; omega
      have g1' : (lo.length != ds.length) = true := by simp; omega
      have HR := Lib.hid (HN.out fun hh => hg1 hh.1)
      clear hg1
      go_wp2_with fail
      go_ret2
      exact ⟨none, 0, by rw [HR.out.1, HR.out.2]; rfl, by rw [HR.out.1]; exact Ints.nil _ _ _, B2⟩
  · have HC := Lib.hid hc
    have HS := Lib.hid (Kd.wi_bad (lo := lo) (hi := hi) hc)
    have hne : (Kd.code k vs != 0) = true := by simpa using hc
    clear hc
    go_enter Try.func24, Try.ntmps24
    go_wp2_with fail
    refine (rspace_any A c vs k w h hl48).mono ?_
    rintro e w1 ⟨rfl, hb1⟩
    go_wp2_with fail
    go_ret2
    exact ⟨none, 0, by rw [HS.out.1, HS.out.2]; rfl, by rw [HS.out.1]; exact Ints.nil _ _ _, hb1⟩
end Go.Proofs.Ytkcnaedffcmodaa
