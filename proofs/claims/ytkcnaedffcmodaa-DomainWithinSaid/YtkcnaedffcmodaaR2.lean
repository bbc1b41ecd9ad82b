/- Walks: the reference's Space. -/
import Derived.Test.YtkcnaedffcmodaaR1
import Derived.Deep.DeepCutAuto
namespace Go.Proofs.Ytkcnaedffcmodaa
open Go.RowKit Go.Maps
set_option linter.unusedVariables false

namespace Kd
theorem sel_any {k : Int} {vs : List V} {i : Nat} {nm : ByteArray} {kd lo hi ini : Int} (h : IsV (sel k vs) i nm kd lo hi ini) (hb : badV ⟨nm, kd, lo, hi, ini⟩ = true) (hk : ¬ (k < 0 ∨ 3 < k)) : code k vs = 3 := by
  unfold code
  rw [if_neg hk, if_pos]
  exact List.any_eq_true.2 ⟨_, h.mem, hb⟩
theorem sel_ok {k : Int} {vs : List V} (h : ∀ i, i < (sel k vs).length → ∃ nm kd lo hi ini, IsV (sel k vs) i nm kd lo hi ini ∧ badV ⟨nm, kd, lo, hi, ini⟩ = false) : (sel k vs).any badV = false := by
  rw [List.any_eq_false]
  intro v hv
  obtain ⟨i, hi, rfl⟩ := List.getElem_of_mem hv
  obtain ⟨nm, kd, lo, hi2, ini, hV, hb⟩ := h i hi
  obtain ⟨_, e⟩ := hV.eq
  rw [e, hb]; decide
/-- the product of the first i -/
def prT (l : List V) (i : Nat) : Nat := pr ((l.take i).map dig)
theorem prT_step {l : List V} {i : Nat} {nm : ByteArray} {kd lo hi ini : Int} (h : IsV l i nm kd lo hi ini) : prT l (i + 1) = prT l i * (hi - lo + 1).toNat := by
  unfold prT
  rw [h.take, List.map_append, List.map_cons, List.map_nil, pr_snoc]; rfl
theorem prT_end {l : List V} : prT l l.length = pr (l.map dig) := by unfold prT; rw [List.take_length]
theorem prT_le {l : List V} {i : Nat} (hb : l.any badV = false) (hi : i ≤ l.length) : prT l i ≤ pr (l.map dig) := by
  unfold prT
  rw [List.map_take, pr_take (by rw [List.length_map]; exact hi)]
  unfold pr
  refine Q_mono (fun j hj => ?_) (by rw [List.length_map]; exact hi)
  rw [List.length_map] at hj
  rw [(digs_at hj).2]
  exact dig_pos (by
    have := List.any_eq_false.1 hb _ (List.getElem_mem hj)
    simpa using this)
end Kd

set_option maxRecDepth 100000 in
set_option maxHeartbeats 2000000 in
theorem rspace_any (A : Option Addr) (c : Nat) (vs : List Kd.V) (k : Int) (w : World) (h : Vrs w w.heap.size A vs) (hl : vs.length * 48 ≤ 140737488351232) :
    Calls Try.prog 13 #[.slice A vs.length c, .int .i64 k] w (NumRes (Kd.spN k vs) (Kd.code k vs) w) := by
  by_cases hkk : k < 0 ∨ 3 < k
  · have hC : Kd.code k vs = 1 := Kd.code_kind hkk
    have HR : Hid (Kd.spN k vs = 0 ∧ Kd.code k vs = 1) := Lib.hid ⟨Kd.spN_bad (by rw [hC]; decide), hC⟩
    have g0 : (k != 0) = true := by simp; omega
    have g1 : (k != 1) = true := by simp; omega
    have g2 : (k != 2) = true := by simp; omega
    have g3 : (k != 3) = true := by simp; omega
    clear hC hkk
    go_enter Try.func13, Try.ntmps13
    go_wp2_with fail
    go_ret2
    exact ⟨by rw [HR.out.1, HR.out.2]; rfl, Below.refl _ _⟩
  have hk4 : k = 0 ∨ k = 1 ∨ k = 2 ∨ k = 3 := by omega
  have HK := Lib.hid hkk
  have HK4 := Lib.hid hk4
  clear hkk hk4
  go_enter Try.func13, Try.ntmps13
  go_upto_region 1 with (fail)
  go_cut [23] (fun s23 wx => s23 = .bool false ∧ w = wx)
  case first =>
    rcases HK4.out with rfl | rfl | rfl | rfl
    all_goals
      go_wp2_with fail
      go_meet
      exact ⟨rfl, rfl⟩
  case rest =>
    obtain ⟨rfl, rfl⟩ := hcut
    go_wp2_with fail
    refine (of_any A c vs k w h hl).mono ?_
    rintro e w1 ⟨A1, c1, rfl, hV, hb⟩
    have hEnd : Hid ((Kd.sel k vs).any Kd.badV = false → Kd.code k vs = if 4096 < Kd.pr ((Kd.sel k vs).map Kd.dig) then 4 else 0) := Lib.hid fun hb => Kd.code_end HK.out hb
    have hBad : Hid (∀ {i nm kd lo hi ini}, IsV (Kd.sel k vs) i nm kd lo hi ini → Kd.badV ⟨nm, kd, lo, hi, ini⟩ = true → Kd.spN k vs = 0 ∧ Kd.code k vs = 3) := Lib.hid fun hV hb => by
      have hc := Kd.sel_any hV hb HK.out
      exact ⟨Kd.spN_bad (by rw [hc]; decide), hc⟩
    have hll : (Kd.sel k vs).length ≤ vs.length := List.length_filter_le _ _
    have hSp : Hid (Kd.code k vs = 0 → Kd.spN k vs = (Kd.pr ((Kd.sel k vs).map Kd.dig) : Nat)) := Lib.hid Kd.spN_ok
    have hSp0 : Hid (Kd.code k vs ≠ 0 → Kd.spN k vs = 0) := Lib.hid Kd.spN_bad
    revert hV hEnd hBad hll hSp hSp0
    generalize Kd.sel k vs = l
    intro hV hEnd hBad hll hSp hSp0
    go_wp2_with fail
    go_loopw [7] (fun iv wr => ∃ i : Nat, i ≤ l.length ∧ iv = .int .i64 i ∧ Vrs wr wr.heap.size A1 l ∧ Below w.heap.size w wr ∧ Hid ((l.take i).any Kd.badV = false)) (fun iv _ => l.length - (intOf iv).toNat)
    case atStart => exact ⟨0, Nat.zero_le _, rfl, hV, hb, Lib.hid rfl⟩
    case round =>
      clear hV hb
      obtain ⟨i, hi, rfl, hV, hb, hok⟩ := hrel
      by_cases hlt : i < l.length
      · obtain ⟨b, off, nm, kd, lo, hi2, ini, rfl, hbb, c0, c1, c2, c3, c4, hv, hbd⟩ := hV.at_ hlt
        have hltI : (i : Int) < (l.length : Int) := by omega
        cases hB : Kd.badV ⟨nm, kd, lo, hi2, ini⟩ with
        | true =>
          have HR := Lib.hid (hBad.out hv hB)
          have h3 : hi2 < lo ∨ (¬ hi2 < lo ∧ lo < -1048576) ∨ (¬ hi2 < lo ∧ ¬ lo < -1048576 ∧ 1048576 < hi2) := by
            unfold Kd.badV at hB
            simp only [Bool.or_eq_true, decide_eq_true_eq] at hB
            omega
          clear hB
          rcases h3 with g1 | ⟨g1, g2⟩ | ⟨g1, g2, g3⟩
          · have g1' : decide (hi2 < lo) = true := decide_eq_true g1
            go_wp2_with fail
            go_quiet (fail)
            go_wp2_with fail
            go_ret2
            exact ⟨by rw [HR.out.1, HR.out.2]; rfl, bDrew hb _⟩
          · have g1' : decide (hi2 < lo) = false := decide_eq_false g1
            have g2' : decide (lo < -1048576) = true := decide_eq_true g2
            go_wp2_with fail
            go_quiet (fail)
            go_wp2_with fail
            go_ret2
            exact ⟨by rw [HR.out.1, HR.out.2]; rfl, bDrew hb _⟩
          · have g1' : decide (hi2 < lo) = false := decide_eq_false g1
            have g2' : decide (lo < -1048576) = false := decide_eq_false g2
            have g3' : decide (1048576 < hi2) = true := decide_eq_true g3
            go_wp2_with fail
            go_quiet (fail)
            go_wp2_with fail
            go_ret2
            exact ⟨by rw [HR.out.1, HR.out.2]; rfl, bDrew hb _⟩
        | false =>
          have hok2 : Hid ((l.take (i + 1)).any Kd.badV = false) := Lib.hid (by rw [hv.take, List.any_append, hok.out]; simpa using hB)
          have hbb3 := Kd.dig_bd hB
          have g1' : decide (hi2 < lo) = false := decide_eq_false (by have := hbb3.2.1; simp only at this; omega)
          have g2' : decide (lo < -1048576) = false := decide_eq_false (by have := hbb3.1; simp only at this; omega)
          have g3' : decide (1048576 < hi2) = false := decide_eq_false (by have := hbb3.2.2.1; simp only at this; omega)
          clear hB hbb3 hok
          go_wp2_with fail
          go_quiet (fail)
          have bq : Below wr.heap.size wr (wr.drewN nq) := bDrew (Below.refl _ _) nq
          go_wp2_with fail
          go_roundw
          case rel => exact ⟨i + 1, by omega, by go_num, hV.at bq, bTrans hb bq, hok2⟩
          case measure => simp [intOf]; omega
      · obtain rfl : i = l.length := by omega
        have HA : Hid (l.any Kd.badV = false) := Lib.hid (by have := hok.out; rwa [List.take_length] at this)
        clear hok hBad
        go_wp2_with fail
        go_loopw [8, 9] (fun nv iv wr => ∃ i n : Nat, i ≤ l.length ∧ iv = .int .i64 i ∧ nv = .int .i64 n ∧ n ≤ 4096 ∧ Hid (n = Kd.prT l i) ∧ Vrs wr wr.heap.size A1 l ∧ Below w.heap.size w wr) (fun _ iv _ => l.length - (intOf iv).toNat)
        case atStart => exact ⟨0, 1, Nat.zero_le _, rfl, rfl, by omega, Lib.hid rfl, hV, hb⟩
        case round =>
          clear hV hb
          obtain ⟨i, n, hi, rfl, rfl, hn, hnp, hV, hb⟩ := hrel
          by_cases hlt : i < l.length
          · obtain ⟨b, off, nm, kd, lo, hi2, ini, rfl, hbb, c0, c1, c2, c3, c4, hv, hbd⟩ := hV.at_ hlt
            have hltI : (i : Int) < (l.length : Int) := by omega
            have hB : Kd.badV ⟨nm, kd, lo, hi2, ini⟩ = false := by have := List.any_eq_false.1 HA.out _ hv.mem; simpa using this
            have hbb3 := Kd.dig_bd hB
            obtain ⟨q, hq⟩ : ∃ q : Nat, Hid ((hi2 - lo + 1).toNat = q) := ⟨_, Lib.hid rfl⟩
            have hstep : Hid (Kd.prT l (i + 1) = n * q) := Lib.hid (by rw [Kd.prT_step hv, ← hnp.out, hq.out])
            obtain ⟨m, hm⟩ : ∃ m : Nat, Hid (n * q = m) := ⟨_, Lib.hid rfl⟩
            have hq1 : hi2 - lo + 1 = (q : Int) := by have := hbb3.2.1; simp only at this; have := hq.out; omega
            have hqb : q ≤ 2097153 := by have h1 := hbb3.1; have h2 := hbb3.2.2.1; simp only at h1 h2; omega
            have hmb : m ≤ 4096 * 2097153 := by rw [← hm.out]; exact Nat.mul_le_mul hn hqb
            have e1 : IntKind.i64.wrap (hi2 - lo) = hi2 - lo := IntWalk.i64_in _ (by omega)
            have e2 : IntKind.i64.wrap (hi2 - lo + 1) = (q : Int) := by rw [hq1]; exact IntWalk.i64_in _ (by omega)
            have e3 : IntKind.i64.wrap ((n : Int) * (q : Int)) = (m : Int) := by
              rw [show (n : Int) * (q : Int) = (m : Int) by rw [← hm.out]; simp]
              exact IntWalk.i64_in _ (by omega)
            have hN : Hid (m = Kd.prT l (i + 1)) := Lib.hid (by rw [hstep.out, hm.out])
            have bq : ∀ q, Below wr.heap.size wr (wr.drewN q) := fun q => bDrew (Below.refl _ _) q
            have HBQ := Lib.hid bq
            have hBig : Hid (4096 < m → Kd.spN k vs = 0 ∧ Kd.code k vs = 4) := Lib.hid fun h4 => by
              have h5 := Kd.prT_le HA.out (show i + 1 ≤ l.length by omega)
              have hc : Kd.code k vs = 4 := by rw [hEnd.out HA.out, if_pos (by rw [← hN.out] at h5; omega)]
              exact ⟨hSp0.out (by rw [hc]; decide), hc⟩
            clear hB hbb3 hq1 bq
            go_wp2_with fail
            go_quiet (fail)
            clear e1 e2 e3
            by_cases h4 : 4096 < m
            · have HR := Lib.hid (hBig.out h4)
              have h4' : (4096 : Int) < (m : Int) := by omega
              go_wp2_with fail
              go_ret2
              exact ⟨by rw [HR.out.1, HR.out.2]; rfl, bTrans hb (HBQ.out _)⟩
            · have h4' : ¬ (4096 : Int) < (m : Int) := by omega
              go_wp2_with fail
              go_roundw
              case rel => exact ⟨i + 1, m, by omega, by go_num, rfl, by omega, hN, hV.at (HBQ.out _), bTrans hb (HBQ.out _)⟩
              case measure => simp [intOf]; omega
          · obtain rfl : i = l.length := by omega
            have hc : Kd.code k vs = 0 := by
              rw [hEnd.out HA.out, if_neg]
              have := hnp.out
              rw [Kd.prT_end] at this
              omega
            have HR : Hid (Kd.spN k vs = (n : Int) ∧ Kd.code k vs = 0) := Lib.hid ⟨by rw [hSp.out hc, hnp.out, Kd.prT_end], hc⟩
            clear hc
            go_wp2_with fail
            go_ret2
            exact ⟨by rw [HR.out.1, HR.out.2]; rfl, hb⟩
end Go.Proofs.Ytkcnaedffcmodaa
