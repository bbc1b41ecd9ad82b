/- Walks: the reference's Join. -/
import Derived.Test.YtdfkgkgglldokaaWd
namespace Go.Proofs.Ytdfkgkgglldokaa
open Go.RowKit Go.Maps
set_option linter.unusedVariables false

namespace Kp
/-- do i and k call for a change? -/
def call (p q : List Int) (E : List Nat) (i k : Nat) : Prop := (lab p i = lab p k ∨ lab q i = lab q k) ∧ E.getD k 0 < E.getD i 0
/-- a pass over the pairs, up to (i, k), begun at E0 -/
structure St (p q : List Int) (E0 E : List Nat) (ch : Bool) (i k : Nat) : Prop where
  len : E.length = p.length
  lm : Lm p q (fun a => E.getD a 0)
  le : E.sum ≤ E0.sum
  yes : ch = true → E.sum < E0.sum
  no : ch = false → E = E0 ∧ (∀ a b, a < i → b < p.length → ¬ call p q E0 a b) ∧ ∀ b, b < k → ¬ call p q E0 i b
theorem sum_set_lt (S : List Nat) (i x : Nat) (hi : i < S.length) (hx : x < S.getD i 0) : (S.set i x).sum < S.sum := by
  induction S generalizing i with
  | nil => exact absurd hi (by simp)
  | cons y S ih =>
    cases i with
    | zero => simp at hx ⊢; omega
    | succ i => have := ih i (by simpa using hi) (by simpa using hx); simp at this ⊢; omega
theorem St.hit {p q : List Int} {E0 E : List Nat} {ch : Bool} {i k : Nat} (h : St p q E0 E ch i k) (hi : i < p.length) (hk : k < p.length) (hc : call p q E i k) : St p q E0 (E.set i (E.getD k 0)) true i (k + 1) where
  len := by rw [List.length_set]; exact h.len
  lm := by
    have hil : i < E.length := by rw [h.len]; exact hi
    have := h.lm.next hi hk hc.1 hc.2
    have e : (fun x => if x = i then E.getD k 0 else E.getD x 0) = fun a => (E.set i (E.getD k 0)).getD a 0 := by
      funext a
      rw [getD_setN _ _ _ _ hil]
      by_cases ea : i = a
      · rw [if_pos ea, if_pos ea.symm]
      · rw [if_neg ea, if_neg (fun e => ea e.symm)]
    rw [e] at this
    exact this
  le := by have := sum_set_lt E i (E.getD k 0) (by rw [h.len]; exact hi) hc.2; have := h.le; omega
  yes _ := by have := sum_set_lt E i (E.getD k 0) (by rw [h.len]; exact hi) hc.2; have := h.le; omega
  no e := by cases e
theorem St.miss {p q : List Int} {E0 E : List Nat} {ch : Bool} {i k : Nat} (h : St p q E0 E ch i k) (hc : ¬ call p q E i k) : St p q E0 E ch i (k + 1) where
  len := h.len
  lm := h.lm
  le := h.le
  yes := h.yes
  no e := by
    obtain ⟨a, b, c⟩ := h.no e
    refine ⟨a, b, fun x hx => ?_⟩
    by_cases ex : x = k
    · rw [ex, ← a]; exact hc
    · exact c x (by omega)
theorem St.row {p q : List Int} {E0 E : List Nat} {ch : Bool} {i : Nat} (h : St p q E0 E ch i p.length) : St p q E0 E ch (i + 1) 0 where
  len := h.len
  lm := h.lm
  le := h.le
  yes := h.yes
  no e := by
    obtain ⟨a, b, c⟩ := h.no e
    refine ⟨a, fun x y hx hy => ?_, fun y hy => absurd hy (Nat.not_lt_zero _)⟩
    by_cases ex : x = i
    · rw [ex]; exact c y hy
    · exact b x y (by omega) hy
theorem St.begin_ {p q : List Int} {E : List Nat} (hl : E.length = p.length) (h : Lm p q (fun a => E.getD a 0)) : St p q E E false 0 0 :=
  ⟨hl, h, Nat.le_refl _, (fun e => by cases e), fun _ => ⟨rfl, fun a b ha => absurd ha (Nat.not_lt_zero _), fun b hb => absurd hb (Nat.not_lt_zero _)⟩⟩
theorem St.done {p q : List Int} {E0 E : List Nat} {i k : Nat} (h : St p q E0 E false i k) (hi : i = p.length) : IsJoin p q (ofF (fun a => (E.getD a 0 : Int)) p.length) := by
  obtain ⟨a, b, c⟩ := h.no rfl
  exact h.lm.join fun x y hx hy hl hlt => by
    rw [a] at hlt
    exact b x y (by omega) hy ⟨hl, hlt⟩
end Kp

/-- a cell as a number -/
def cellN (w : World) (g i : Nat) : Nat := match w.cell? ⟨g, i, none⟩ with
  | some (.int _ x) => x.toNat
  | _ => 0
def sumN (w : World) (g n : Nat) : Nat := ((List.range n).map (cellN w g)).sum
theorem sumN_row {w : World} {g : Nat} {E : List Nat} (h : IBlk w g (zN E)) : sumN w g E.length = E.sum := by
  unfold sumN
  congr 1
  apply List.ext_getElem
  · simp
  · intro i h1 h2
    have hi : i < E.length := h2
    have hc := h.cell (k := i) (by rw [zN_length]; exact hi)
    rw [zN_get _ _ hi] at hc
    simp only [List.getElem_map, List.getElem_range]
    unfold cellN
    rw [hc, List.getD_eq_getElem?_getD, List.getElem?_eq_getElem hi]; simp
/-- what falls with each pass -/
def passM (c : Value) (w : World) (g n : Nat) : Nat := 2 * sumN w g n + (match c with | .bool true => 1 | _ => 0)

set_option maxRecDepth 100000 in
set_option maxHeartbeats 4000000 in
theorem rjoin_ok (A : Option Addr) (ca : Nat) (p : List Int) (B : Option Addr) (cb : Nat) (q : List Int) (w : World) (ha : Ints w w.heap.size A p) (hb : Ints w w.heap.size B q) (hlp : p.length ≤ 1000000) (hlq : q.length ≤ 1000000) (hc : Kp.code p q = 0) :
    Calls Try.prog 29 #[.slice A p.length ca, .slice B q.length cb] w (PairRes (Kp.IsJoin p q) w) := by
  obtain ⟨hvp, hvq, hpq⟩ := Kp.code_zero hc
  have hL := Lib.hid hpq
  have hC := Lib.hid hc
  have hmk := makeInts p.length hlp
  clear hc hvp hvq hpq
  go_enter Try.func29, Try.ntmps29
  go_wp2_with fail
  refine (rboth_any A ca p B cb q _ ha hb hlp hlq).mono ?_
  rintro e w' ⟨rfl, rfl⟩
  rw [hC.out]
  go_wp2_with fail
  clear hmk
  go_loopw [8] (fun iv wr => ∃ k : Nat, k ≤ p.length ∧ iv = .int .i64 k ∧ IBlk wr w.heap.size (Kp.fillZ (fun i => (i : Int)) p.length k) ∧ Below w.heap.size w wr) (fun iv _ => p.length - (intOf iv).toNat)
  case atStart => exact ⟨0, Nat.zero_le _, rfl, by rw [Kp.fillZ_zero]; exact IBlk.new_ _ _, newB1 w _⟩
  case round =>
    obtain ⟨k, hk, rfl, hrow, hbel⟩ := hrel
    by_cases hlt : k < p.length
    · have hcg := hrow.cell (k := k) (by rw [Kp.fillZ_length]; exact hlt)
      have hfg := hrow.frozen k
      have hset := hrow.set_ k (k : Int)
      rw [show (k : Int) = (fun i : Nat => (i : Int)) k from rfl, Kp.fillZ_set _ _ _ hlt] at hset
      have hbel' := hbel.setCell (p := ⟨w.heap.size, k, none⟩) (Nat.le_refl _) (.int .i64 (k : Int))
      go_wp2_with fail
      go_roundw
      case rel => exact ⟨k + 1, by omega, by go_num, hset, hbel'⟩
      case measure => simp [intOf]; omega
    · obtain rfl : k = p.length := by omega
      rw [range_fill] at hrow
      have hlm : Hid (Kp.Lm p q (fun a => (List.range p.length).getD a 0)) := Lib.hid ⟨fun i hi => by rw [List.getD_eq_getElem?_getD, List.getElem?_range hi]; exact Nat.le_refl _, fun i hi => by rw [List.getD_eq_getElem?_getD, List.getElem?_range hi]; exact .refl i hi⟩
      have hEl : Hid ((List.range p.length).length = p.length) := Lib.hid List.length_range
      clear hk hlt
      go_wp2_with fail
      generalize List.range p.length = E at *
      go_loopw [9] (fun cv wr => ∃ (ch : Bool) (E0 E : List Nat), cv = .bool ch ∧ IBlk wr w.heap.size (zN E) ∧ Hid (Kp.Lm p q (fun a => E.getD a 0)) ∧ Hid (E.length = p.length) ∧ Hid (ch = false → Kp.St p q E0 E false p.length 0) ∧ Below w.heap.size w wr) (fun cv wr => passM cv wr w.heap.size p.length)
      case atStart => exact ⟨true, [], _, rfl, hrow, hlm, hEl, Lib.hid (fun e => by cases e), hbel⟩
      case round =>
        clear hrow hbel hlm hEl
        obtain ⟨ch, E0, E, rfl, hrow, hlm, hEl, hdn, hbel⟩ := hrel
        cases ch with
        | false =>
          have hJ : Hid (Kp.IsJoin p q (Kp.ofF (fun a => (E.getD a 0 : Int)) p.length)) := Lib.hid ((hdn.out rfl).done rfl)
          have hlz : Hid ((zN E).length = p.length) := Lib.hid (by rw [zN_length]; exact hEl.out)
          have hI := hrow.ints (B := wr.heap.size) hrow.lt (fun x hx => by
            obtain ⟨y, hy, rfl⟩ := List.mem_map.1 hx
            obtain ⟨i, hi, rfl⟩ := List.getElem_of_mem hy
            have h1 := hlm.out.le i (by rw [← hEl.out]; exact hi)
            simp only [List.getD_eq_getElem?_getD, List.getElem?_eq_getElem hi, Option.getD_some] at h1
            have h2 : i < p.length := by rw [← hEl.out]; exact hi
            omega)
          have hof := rof_any (some ⟨w.heap.size, 0, none⟩) p.length (zN E) wr hI (by rw [hlz.out]; exact hlp)
          rw [hlz.out] at hof
          have hoe : Hid (Kp.ofL (zN E) = Kp.ofF (fun a => (E.getD a 0 : Int)) p.length) := Lib.hid (by
            unfold Kp.ofL
            rw [hlz.out]
            refine Kp.ofF_congr fun i j hi hj => ?_
            show (zN E).getD i 0 = (zN E).getD j 0 ↔ _
            rw [zN_get _ _ (by rw [hEl.out]; exact hi), zN_get _ _ (by rw [hEl.out]; exact hj)])
          rw [hoe.out] at hof
          go_wp2_with fail
          refine hof.mono ?_
          rintro e w3 ⟨A3, c3, rfl, hI3, hB3⟩
          go_wp2_with fail
          go_ret2
          exact ⟨_, A3, c3, hJ.out, rfl, hI3, bTrans hbel hB3⟩
        | true =>
          have hs0 : Hid (sumN wr w.heap.size p.length = E.sum) := Lib.hid (by rw [← hEl.out]; exact sumN_row hrow)
          have hst : Hid (Kp.St p q E E false 0 0) := Lib.hid (Kp.St.begin_ hEl.out hlm.out)
          go_wp2_with fail
          go_loopw [9, 10] (fun cv iv wr2 => ∃ (ch : Bool) (i : Nat) (F : List Nat), i ≤ p.length ∧ cv = .bool ch ∧ iv = .int .i64 i ∧ IBlk wr2 w.heap.size (zN F) ∧ Hid (Kp.St p q E F ch i 0) ∧ Below w.heap.size w wr2) (fun _ iv _ => p.length - (intOf iv).toNat)
          case atStart => exact ⟨false, 0, E, Nat.zero_le _, rfl, rfl, hrow, hst, hbel⟩
          case round =>
            clear hrow hbel hst
            obtain ⟨ch, i, F, hi, rfl, rfl, hrow, hst, hbel⟩ := hrel
            by_cases hlt : i < p.length
            · go_wp2_with fail
              go_loopw [9, 11] (fun cv kv wr2 => ∃ (ch : Bool) (k : Nat) (F : List Nat), k ≤ p.length ∧ cv = .bool ch ∧ kv = .int .i64 k ∧ IBlk wr2 w.heap.size (zN F) ∧ Hid (Kp.St p q E F ch i k) ∧ Below w.heap.size w wr2) (fun _ kv _ => p.length - (intOf kv).toNat)
              case atStart => exact ⟨ch, 0, F, Nat.zero_le _, rfl, rfl, hrow, hst, hbel⟩
              case round =>
                clear hrow hbel hst
                obtain ⟨ch, k, F, hk, rfl, rfl, hrow, hst, hbel⟩ := hrel
                by_cases hkl : k < p.length
                · obtain ⟨b1, off1, xi, rfl, hbb1, hc1, hxi⟩ := (ha.below hbel).at_ hlt
                  obtain ⟨b2, off2, yi, rfl, hbb2, hc2, hyi⟩ := (hb.below hbel).at_ (k := i) (by rw [← hL.out]; exact hlt)
                  obtain ⟨_, _, xk, hA, _, hc3, hxk⟩ := (ha.below hbel).at_ hkl
                  cases hA
                  obtain ⟨_, _, yk, hA, _, hc4, hyk⟩ := (hb.below hbel).at_ (k := k) (by rw [← hL.out]; exact hkl)
                  cases hA
                  have lxi : Hid (xi = Kp.lab p i) := Lib.hid hxi.out.1
                  have lyi : Hid (yi = Kp.lab q i) := Lib.hid hyi.out.1
                  have lxk : Hid (xk = Kp.lab p k) := Lib.hid hxk.out.1
                  have lyk : Hid (yk = Kp.lab q k) := Lib.hid hyk.out.1
                  have hFl := hst.out.len
                  obtain ⟨ei, hei⟩ : ∃ ei, Hid (F.getD i 0 = ei) := ⟨_, Lib.hid rfl⟩
                  obtain ⟨ek, hek⟩ : ∃ ek, Hid (F.getD k 0 = ek) := ⟨_, Lib.hid rfl⟩
                  have hci := hrow.cell (k := i) (by rw [zN_length, hFl]; exact hlt)
                  rw [zN_get _ _ (by rw [hFl]; exact hlt), hei.out] at hci
                  have hck := hrow.cell (k := k) (by rw [zN_length, hFl]; exact hkl)
                  rw [zN_get _ _ (by rw [hFl]; exact hkl), hek.out] at hck
                  have hfi := hrow.frozen i
                  have hiq : (i : Int) < (q.length : Int) := by have := hL.out; omega
                  have hkq : (k : Int) < (q.length : Int) := by have := hL.out; omega
                  have HS : Hid (∀ n, IBlk ((wr.drewN n).setCell ⟨w.heap.size, i, none⟩ (.int .i64 (ek : Int))) w.heap.size (zN (F.set i ek))) := Lib.hid (fun n => by
                    rw [← zN_set]; exact (hrow.drewN n).set_ i (ek : Int))
                  have HB : Hid (∀ n, Below w.heap.size w ((wr.drewN n).setCell ⟨w.heap.size, i, none⟩ (.int .i64 (ek : Int)))) := Lib.hid (fun n => (bDrew hbel n).setCell (p := ⟨w.heap.size, i, none⟩) (Nat.le_refl _) _)
                  clear hFl
                  by_cases hx : xi = xk
                  · have h1 : (xi == xk) = true := by simpa using hx
                    by_cases hlt2 : ek < ei
                    · have h5 : decide (ek < ei) = true := by simpa using hlt2
                      have h6 : (ek : Int) < (ei : Int) := by omega
                      have HST : Hid (Kp.St p q E (F.set i ek) true i (k + 1)) := Lib.hid (by
                        have := hst.out.hit hlt hkl ⟨.inl (by rw [← lxi.out, ← lxk.out]; exact hx), by rw [hek.out, hei.out]; exact hlt2⟩
                        rw [hek.out] at this; exact this)
                      clear hlt2 hst hx
                      go_wp2_with fail
                      go_quiet (fail)
                      go_wp2_with fail
                      go_roundw
                      case rel => exact ⟨true, k + 1, _, by omega, rfl, by go_num, HS.out _, HST.out, HB.out _⟩
                      case measure => simp [intOf]; omega
                    · have h5 : decide (ek < ei) = false := by simpa using hlt2
                      have h6 : ¬ (ek : Int) < (ei : Int) := by omega
                      have HMS : Hid (Kp.St p q E F ch i (k + 1)) := Lib.hid (hst.out.miss (fun hc => hlt2 (by have := hc.2; rw [hek.out, hei.out] at this; exact this)))
                      clear hlt2 hst hx
                      go_wp2_with fail
                      go_quiet (fail)
                      go_wp2_with fail
                      go_roundw
                      case rel => exact ⟨ch, k + 1, F, by omega, rfl, by go_num, hrow.drewN _, HMS.out, bDrew hbel _⟩
                      case measure => simp [intOf]; omega
                  · have h1 : (xi == xk) = false := by simpa using hx
                    by_cases hy : yi = yk
                    · have h2 : (yi == yk) = true := by simpa using hy
                      by_cases hlt2 : ek < ei
                      · have h5 : decide (ek < ei) = true := by simpa using hlt2
                        have h6 : (ek : Int) < (ei : Int) := by omega
                        have HST : Hid (Kp.St p q E (F.set i ek) true i (k + 1)) := Lib.hid (by
                          have := hst.out.hit hlt hkl ⟨.inr (by rw [← lyi.out, ← lyk.out]; exact hy), by rw [hek.out, hei.out]; exact hlt2⟩
                          rw [hek.out] at this; exact this)
                        clear hlt2 hst hx hy
                        go_wp2_with fail
                        go_quiet (fail)
                        go_wp2_with fail
                        go_roundw
                        case rel => exact ⟨true, k + 1, _, by omega, rfl, by go_num, HS.out _, HST.out, HB.out _⟩
                        case measure => simp [intOf]; omega
                      · have h5 : decide (ek < ei) = false := by simpa using hlt2
                        have h6 : ¬ (ek : Int) < (ei : Int) := by omega
                        have HMS : Hid (Kp.St p q E F ch i (k + 1)) := Lib.hid (hst.out.miss (fun hc => hlt2 (by have := hc.2; rw [hek.out, hei.out] at this; exact this)))
                        clear hlt2 hst hx hy
                        go_wp2_with fail
                        go_quiet (fail)
                        go_wp2_with fail
                        go_roundw
                        case rel => exact ⟨ch, k + 1, F, by omega, rfl, by go_num, hrow.drewN _, HMS.out, bDrew hbel _⟩
                        case measure => simp [intOf]; omega
                    · have h2 : (yi == yk) = false := by simpa using hy
                      have HMS : Hid (Kp.St p q E F ch i (k + 1)) := Lib.hid (hst.out.miss (fun hc => by
                        rcases hc.1 with h | h
                        · exact hx (by rw [lxi.out, lxk.out]; exact h)
                        · exact hy (by rw [lyi.out, lyk.out]; exact h)))
                      clear hx hy hst
                      go_wp2_with fail
                      go_quiet (fail)
                      go_wp2_with fail
                      go_roundw
                      case rel => exact ⟨ch, k + 1, F, by omega, rfl, by go_num, hrow.drewN _, HMS.out, bDrew hbel _⟩
                      case measure => simp [intOf]; omega
                · obtain rfl : k = p.length := by omega
                  have hst' := Lib.hid hst.out.row
                  go_wp2_with fail
                  go_roundw
                  case rel => exact ⟨ch, i + 1, F, by omega, rfl, by go_num, hrow, hst', hbel⟩
                  case measure => simp [intOf]; omega
            · obtain rfl : i = p.length := by omega
              go_wp2_with fail
              go_roundw
              case rel => exact ⟨ch, E, F, rfl, hrow, Lib.hid hst.out.lm, Lib.hid hst.out.len, Lib.hid (fun e => by rw [← e]; exact hst.out), hbel⟩
              case measure =>
                have e1 : sumN wr w.heap.size p.length = F.sum := by rw [← hst.out.len]; exact sumN_row hrow
                have e2 := hs0.out
                show passM (.bool ch) wr w.heap.size p.length < passM (.bool true) _ w.heap.size p.length
                unfold passM
                rw [e1, e2]
                cases hch : ch with
                | true => have := hst.out.yes hch; simp; omega
                | false => have := (hst.out.no hch).1; rw [this]; simp
end Go.Proofs.Ytdfkgkgglldokaa
