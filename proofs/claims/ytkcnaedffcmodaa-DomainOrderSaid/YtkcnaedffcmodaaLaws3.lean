/- The law DomainOrder, walked. -/
import Derived.Test.YtkcnaedffcmodaaLaws2
namespace Go.Proofs.Ytkcnaedffcmodaa
open Go.RowKit Go.Maps
set_option linter.unusedVariables false

namespace Kd
theorem ua_zero {k : Int} {vs : List V} {r : Int} (h : uaC k vs r = 0) : code k vs = 0 ∧ ∃ n : Nat, r = (n : Int) ∧ n < pr (digs k vs) ∧ uaX k vs r = unL (digs k vs) n := by
  by_cases hc : code k vs = 0
  · rw [(ua_ok hc).2] at h
    have hr : 0 ≤ r ∧ r < (pr (digs k vs) : Nat) := by
      apply Classical.byContradiction
      intro hn
      rw [(un_out hn).2] at h
      exact absurd h (by decide)
    obtain ⟨n, rfl⟩ : ∃ n : Nat, r = (n : Int) := ⟨r.toNat, by omega⟩
    have hn : n < pr (digs k vs) := by omega
    exact ⟨hc, n, rfl, hn, by rw [(ua_ok hc).1, (un_in hn).1]⟩
  · rw [(ua_bad hc).2] at h; exact absurd h hc
theorem un_lex {ds : List (Int × Nat)} {r s i : Nat} (hd : OkD ds) (hr : r < pr ds) (hs : s < pr ds) (hi : i < ds.length) (he : ∀ j, j < i → (unL ds r).getD j 0 = (unL ds s).getD j 0) (hne : (unL ds r).getD i 0 ≠ (unL ds s).getD i 0) : (unL ds r).getD i 0 < (unL ds s).getD i 0 ↔ r < s := by
  have h1 : ∀ j, j < i → dg (cf ds) ds.length r j = dg (cf ds) ds.length s j := fun j hj => by
    have := he j hj
    rw [unL_get (by omega), unL_get (by omega)] at this
    omega
  rw [unL_get hi, unL_get hi] at hne ⊢
  constructor
  · intro h
    exact lex hd.pos hr hs hi h1 (by omega)
  · intro h
    apply Classical.byContradiction
    intro hn
    have := lex hd.pos hs hr hi (fun j hj => (h1 j hj).symm) (by omega)
    omega
theorem un_same {ds : List (Int × Nat)} {r s : Nat} (hd : OkD ds) (hr : r < pr ds) (hs : s < pr ds) (he : ∀ j, j < ds.length → (unL ds r).getD j 0 = (unL ds s).getD j 0) : r = s :=
  lex_eq hd.pos hr hs fun j hj => by
    have := he j hj
    rw [unL_get hj, unL_get hj] at this
    omega
end Kd

set_option maxRecDepth 100000 in
set_option maxHeartbeats 2000000 in
theorem order_walk (A : Option Addr) (c : Nat) (vs : List Kd.V) (k : Int) (x y : Int) (w : World) (h : Vrs w w.heap.size A vs) :
    Calls Try.prog 6 #[.slice A vs.length c, .int .i64 k, .agg #[.int .i64 x, .int .i64 y]] w (LawRes w) := by
  have t0 := Two.new_ w (.int .i64 x) (.int .i64 y) 36
  have b0 := newB1 w (.cells #[.int .i64 x, .int .i64 y] 36)
  have h0 := h.at b0
  go_enter Try.func6, Try.ntmps6
  go_wp2_with fail
  clear h
  revert t0 b0 h0
  generalize w.alloc (.cells #[.int .i64 x, .int .i64 y] 36) = w0
  intro t0 b0 h0
  refine (known_ok w0).mono ?_
  rintro e w1 ⟨rfl, n1⟩
  have t1 := t0.below n1 t0.lt
  have B1 := bTrans b0 n1
  have V1 := h0.at n1
  clear t0 b0 h0 n1
  by_cases h1 : 80 < vs.length
  · have h1' : (80 : Int) < (vs.length : Int) := by omega
    go_wp2_with fail
    go_ret
    exact ⟨rfl, B1⟩
  have h1' : ¬ (80 : Int) < (vs.length : Int) := by omega
  have hl : vs.length ≤ 1000000 := by omega
  have x0 := t1.c0
  clear h1
  go_wp2_with fail
  refine (unrank_all A c vs k x _ V1 hl).mono ?_
  rintro e w2 ⟨A2, c2, rfl, I2, n2⟩
  have t2 := t1.below n2 t1.lt
  have B2 := bTrans B1 n2
  have V2 := V1.at n2
  clear t1 B1 V1 n2 x0 h1'
  have x1 := t2.c1
  go_wp2_with fail
  refine (unrank_all A c vs k y _ V2 hl).mono ?_
  rintro e w3 ⟨A3, c3, rfl, I3, n3⟩
  have t3 := t2.below n3 t2.lt
  have B3 := bTrans B2 n3
  have J3 := I2.at n3
  clear t2 B2 V2 n3 x1 I2
  by_cases e1 : Kd.uaC k vs x = 0
  case neg =>
    have g1 : (Kd.uaC k vs x != 0) = true := by simpa using e1
    clear e1
    go_wp2_with fail
    go_ret
    exact ⟨rfl, B3⟩
  by_cases e2 : Kd.uaC k vs y = 0
  case neg =>
    have g1 : (Kd.uaC k vs y != 0) = true := by simpa using e2
    rw [e1]
    clear e1 e2
    go_wp2_with fail
    go_ret
    exact ⟨rfl, B3⟩
  obtain ⟨hc, r, hr1, hr2, hr3⟩ := Kd.ua_zero e1
  obtain ⟨_, s, hs1, hs2, hs3⟩ := Kd.ua_zero e2
  have hd := (Kd.code_ok hc).2.2
  have hdl : (Kd.digs k vs).length ≤ 1000000 := Nat.le_trans Kd.digs_le hl
  rw [e1, e2]
  rw [hr3] at J3 ⊢
  rw [hs3] at I3 ⊢
  subst hr1 hs1
  clear e1 e2 hr3 hs3 hc
  generalize Kd.digs k vs = ds at hr2 hs2 hd hdl J3 I3 ⊢
  have hl1 : (Kd.unL ds r).length = ds.length := Kd.unL_length
  have hl2 : (Kd.unL ds s).length = ds.length := Kd.unL_length
  have HX := Lib.hid (fun i hi he hne => Kd.un_lex (i := i) hd hr2 hs2 hi he hne)
  have HE := Lib.hid (fun he => Kd.un_same hd hr2 hs2 he)
  clear hd hr2 hs2
  generalize Kd.unL ds r = a at J3 HX HE hl1 ⊢
  generalize Kd.unL ds s = b at I3 HX HE hl2 ⊢
  have HL1 := Lib.hid hl1
  have HL2 := Lib.hid hl2
  have hal : a.length ≤ 1000000 := by omega
  have g1 : ((a.length : Int) != (b.length : Int)) = false := by simp; omega
  have g1' : (a.length != b.length) = false := by simp; omega
  clear hl1 hl2
  go_wp2_with fail
  clear g1 g1'
  go_loopw [46] (fun iv wr => ∃ i : Nat, i ≤ a.length ∧ iv = .int .i64 i ∧ Hid (∀ j, j < i → a.getD j 0 = b.getD j 0) ∧ Below w3.heap.size w3 wr) (fun iv _ => a.length - (intOf iv).toNat)
  case atStart => exact ⟨0, Nat.zero_le _, rfl, Lib.hid fun j hj => by omega, Below.refl _ _⟩
  case round =>
    obtain ⟨i, hi, rfl, hno, n4⟩ := hrel
    have t4 := t3.below n4 t3.lt
    have B4 := bTrans B3 n4
    by_cases hlt : i < a.length
    · obtain ⟨b1, o1, u, rfl, hb1, c1, hu⟩ := (J3.below n4).at_ hlt
      obtain ⟨b2, o2, v, rfl, hb2, c2, hv⟩ := (I3.below n4).at_ (k := i) (by rw [HL2.out, ← HL1.out]; exact hlt)
      have hlt2 : (i : Int) < (b.length : Int) := by have := HL1.out; have := HL2.out; omega
      have bq : ∀ q, Below wr.heap.size wr (wr.drewN q) := fun q => bDrew (Below.refl _ _) q
      have HBQ := Lib.hid bq
      have y0 := t4.c0
      have y1 := t4.c1
      clear bq
      by_cases huv : u = v
      · have g2 : (u != v) = false := by simp; omega
        have HUV := Lib.hid huv
        clear huv
        go_wp2_with fail
        go_quiet (fail)
        go_wp2_with fail
        go_roundw
        case rel => exact ⟨i + 1, by omega, by go_num, Lib.hid (fun j h => by
          by_cases e : j = i
          · rw [e, ← hu.out.1, ← hv.out.1]; exact HUV.out
          · exact hno.out j (by omega)), bTrans n4 (HBQ.out _)⟩
        case measure => simp [intOf]; omega
      · have g2 : (u != v) = true := by simp; omega
        have hlx := HX.out i (by rw [← HL1.out]; exact hlt) hno.out (by rw [← hu.out.1, ← hv.out.1]; exact huv)
        rw [← hu.out.1, ← hv.out.1] at hlx
        have g3 : (decide (u < v) == decide ((r : Int) < (s : Int))) = true := by
          rw [beq_iff_eq, decide_eq_decide, hlx]; omega
        have g3' : (decide (u < v) == decide (r < s)) = true := by
          rw [beq_iff_eq, decide_eq_decide, hlx]
        clear huv hlx
        go_wp2_with fail
        go_quiet (fail)
        replace c1 : (wr.drewN nq).cell? ⟨b1, o1 + i, none⟩ = _ := c1
        replace c2 : (wr.drewN nq).cell? ⟨b2, o2 + i, none⟩ = _ := c2
        replace y0 : (wr.drewN nq).cell? ⟨w.heap.size, 0, none⟩ = _ := y0
        replace y1 : (wr.drewN nq).cell? ⟨w.heap.size, 1, none⟩ = _ := y1
        have B5 := bTrans B4 (HBQ.out nq)
        clear t4 n4 B4 HBQ
        generalize wr.drewN nq = w6 at *
        go_wp2_with fail
        go_quiet (fail)
        go_wp2_with fail
        go_ret
        exact ⟨rfl, bTrans B5 (bDrew (Below.refl _ _) _)⟩
    · obtain rfl : i = a.length := by omega
      have hrs : r = s := HE.out fun j hj => hno.out j (by rw [HL1.out]; exact hj)
      subst hrs
      have y0 := t4.c0
      have y1 := t4.c1
      go_wp2_with fail
      go_ret
      exact ⟨rfl, B4⟩
end Go.Proofs.Ytkcnaedffcmodaa
