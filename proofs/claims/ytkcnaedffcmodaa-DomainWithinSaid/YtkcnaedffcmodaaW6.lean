/- Walks: Next, Inputs of the package. -/
import Derived.Test.YtkcnaedffcmodaaW5
namespace Go.Proofs.Ytkcnaedffcmodaa
open Go.RowKit Go.Maps
set_option linter.unusedVariables false

namespace Kd
def neX (k : Int) (vs : List V) (xs : List Int) : List Int := if raC k vs xs = 0 then uaX k vs (raN k vs xs + 1) else []
def neM (k : Int) (vs : List V) (xs : List Int) : Bool := if raC k vs xs = 0 then uaC k vs (raN k vs xs + 1) == 0 else false
theorem ne_bad {k : Int} {vs : List V} {xs : List Int} (h : raC k vs xs ≠ 0) : neX k vs xs = [] ∧ neM k vs xs = false := ⟨if_neg h, if_neg h⟩
theorem ne_ok {k : Int} {vs : List V} {xs : List Int} (h : raC k vs xs = 0) : neX k vs xs = uaX k vs (raN k vs xs + 1) ∧ neM k vs xs = (uaC k vs (raN k vs xs + 1) == 0) := ⟨if_pos h, if_pos h⟩
/-- where a number is there, its vector is -/
theorem rk_zero {ds : List (Int × Nat)} {xs : List Int} (h : rkC ds xs = 0) : xs.length = ds.length ∧ inR ds xs ds.length = true := by
  unfold rkC at h
  by_cases h1 : xs.length = ds.length
  · rw [if_pos h1] at h
    by_cases h2 : inR ds xs ds.length = true
    · exact ⟨h1, h2⟩
    · rw [if_neg h2] at h; exact absurd h (by decide)
  · rw [if_neg h1] at h; exact absurd h (by decide)
theorem rk_num {ds : List (Int × Nat)} {xs : List Int} (h : rkC ds xs = 0) : ∃ r : Nat, rkN ds xs = (r : Int) ∧ r < pr ds ∧ unL ds r = xs := by
  obtain ⟨h1, h2⟩ := rk_zero h
  exact ⟨_, (rk_ok h1 h2).1, rk_lt h2, un_rk h1 h2⟩
theorem ra_zero {k : Int} {vs : List V} {xs : List Int} (h : raC k vs xs = 0) : code k vs = 0 ∧ rkC (digs k vs) xs = 0 := by
  by_cases hc : code k vs = 0
  · exact ⟨hc, by rw [← (ra_ok hc).2]; exact h⟩
  · rw [(ra_bad hc).2] at h; exact absurd h hc
theorem un_in {ds : List (Int × Nat)} {r : Nat} (h : r < pr ds) : unX ds (r : Int) = unL ds r ∧ unC ds (r : Int) = 0 := by
  unfold unX unC
  rw [if_pos ⟨by omega, by omega⟩, if_pos ⟨by omega, by omega⟩]; exact ⟨rfl, rfl⟩
theorem un_out {ds : List (Int × Nat)} {r : Int} (h : ¬ (0 ≤ r ∧ r < (pr ds : Nat))) : unX ds r = [] ∧ unC ds r = 3 := by
  unfold unX unC
  rw [if_neg h, if_neg h]; exact ⟨rfl, rfl⟩
end Kd

/-- a list, a bool and a code -/
def NexRes (zs : List Int) (m : Bool) (C : Int) (w : World) (e : Ending) (w' : World) : Prop :=
  ∃ A c, e = .returned (.tuple #[.slice A zs.length c, .bool m, .int .i64 C]) ∧ Ints w' w'.heap.size A zs ∧ Below w.heap.size w w'

set_option maxRecDepth 100000 in
set_option maxHeartbeats 1000000 in
theorem next_all (A : Option Addr) (c : Nat) (vs : List Kd.V) (k : Int) (B : Option Addr) (cb : Nat) (xs : List Int) (w : World) (h : Vrs w w.heap.size A vs) (hl : vs.length ≤ 1000000) (hx : Ints w w.heap.size B xs) :
    Calls Try.prog 19 #[.slice A vs.length c, .int .i64 k, .slice B xs.length cb] w (NexRes (Kd.neX k vs xs) (Kd.neM k vs xs) (Kd.raC k vs xs) w) := by
  by_cases hc : Kd.code k vs = 0
  · have HC := Lib.hid hc
    have HS := Lib.hid (Kd.ra_ok (xs := xs) hc)
    have HU := Lib.hid (fun r => Kd.ua_ok (r := r) hc)
    have hok := Lib.hid (Kd.code_ok hc).2.2
    have hdl : (Kd.digs k vs).length ≤ 1000000 := Nat.le_trans Kd.digs_le hl
    obtain ⟨p, hp⟩ : ∃ p, Hid (Kd.pr (Kd.digs k vs) = p) := ⟨_, Lib.hid rfl⟩
    have hp4 : p ≤ 4096 := by rw [← hp.out]; exact hok.out.sp
    clear hc
    go_enter Try.func19, Try.ntmps19
    go_wp2_with fail
    refine (dom_ok A c vs k w h hl HC.out).mono ?_
    rintro e w1 ⟨A', c', rfl, hD, hb⟩
    rw [hp.out]
    have b1 := newB1 w1 (.cells #[.slice A' (Kd.digs k vs).length c', .int .i64 (p : Nat)] 54)
    have t1 := Two.new_ w1 (.slice A' (Kd.digs k vs).length c') (.int .i64 (p : Nat)) 54
    unfold domV
    go_wp2_with fail
    have B1 := bTrans hb b1
    have hD1 := hD.at b1
    have hx1 := (hx.at hb).at b1
    clear hb b1 hD
    revert B1 t1 hD1 hx1
    generalize w1.alloc (.cells #[.slice A' (Kd.digs k vs).length c', .int .i64 (p : Nat)] 54) = w2
    generalize w1.heap.size = g
    intro t1 B1 hD1 hx1
    refine (rank_any A' c' (Kd.digs k vs) (p : Nat) B cb xs _ hD1 hok.out hdl hx1).mono ?_
    rintro e w3 ⟨rfl, hb2⟩
    have B3 := bTrans B1 hb2
    have t3 := t1.below hb2 t1.lt
    have hD3 := hD1.at hb2
    have x0 := t3.c0
    have x1 := t3.c1
    clear B1 t1 hD1 hx1 hb2
    by_cases hr : Kd.rkC (Kd.digs k vs) xs = 0
    · obtain ⟨r, hr1, hr2, hr3⟩ := Kd.rk_num hr
      have HN := Lib.hid (Kd.ne_ok (k := k) (vs := vs) (xs := xs) (by rw [HS.out.2]; exact hr))
      have HR := Lib.hid hr1
      have HRC := Lib.hid hr
      rw [hp.out] at hr2
      rw [hr1, hr]
      clear hr hr1 hr3
      by_cases hlast : r + 1 = p
      · have HX : Hid (Kd.neX k vs xs = [] ∧ Kd.neM k vs xs = false) := Lib.hid (by
          have h2 := Kd.un_out (ds := Kd.digs k vs) (r := (r : Int) + 1) (by rw [hp.out]; omega)
          rw [HN.out.1, HN.out.2, (HU.out _).1, (HU.out _).2, HS.out.1, HR.out, h2.1, h2.2]; exact ⟨rfl, rfl⟩)
        have g1 : ((r : Int) + 1 == (p : Int)) = true := by simp; omega
        have hL := Lib.hid hlast
        clear hlast
        go_wp2_with fail
        go_returns
        exact ⟨none, 0, by rw [HX.out.1, HX.out.2, HS.out.2, HRC.out]; rfl, by rw [HX.out.1]; exact Ints.nil _ _ _, B3⟩
      · have HX : Hid (Kd.neX k vs xs = Kd.unX (Kd.digs k vs) ((r : Int) + 1) ∧ Kd.neM k vs xs = true ∧ Kd.unC (Kd.digs k vs) ((r : Int) + 1) = 0) := Lib.hid (by
          have h2 := Kd.un_in (ds := Kd.digs k vs) (r := r + 1) (by rw [hp.out]; omega)
          rw [show (((r + 1 : Nat)) : Int) = (r : Int) + 1 by omega] at h2
          rw [HN.out.1, HN.out.2, (HU.out _).1, (HU.out _).2, HS.out.1, HR.out, h2.2]; exact ⟨rfl, rfl, rfl⟩)
        have g1 : ((r : Int) + 1 == (p : Int)) = false := by simp; omega
        have hL := Lib.hid hlast
        clear hlast
        have hun := unrank_any A' c' (Kd.digs k vs) ((r : Int) + 1) w3 hD3 hok.out hdl
        rw [hp.out] at hun
        have HUN := Lib.hid hun
        clear hun
        go_wp2_with fail
        refine (HUN.out).mono ?_
        rintro e w4 ⟨A2, c2, rfl, hI, hb4⟩
        go_wp2_with fail
        go_returns
        exact ⟨A2, c2, by rw [HX.out.1, HX.out.2.1, HS.out.2, HRC.out]; rfl, by rw [HX.out.1]; exact hI, bTrans B3 hb4⟩
    · have HN := Lib.hid (Kd.ne_bad (k := k) (vs := vs) (xs := xs) (by rw [HS.out.2]; exact hr))
      have g1 : (Kd.rkC (Kd.digs k vs) xs != 0) = true := by simpa using hr
      have HRC := Lib.hid hr
      clear hr
      go_wp2_with fail
      go_returns
      exact ⟨none, 0, by rw [HN.out.1, HN.out.2, HS.out.2]; rfl, by rw [HN.out.1]; exact Ints.nil _ _ _, B3⟩
  · have HC := Lib.hid hc
    have HS := Lib.hid (Kd.ra_bad (xs := xs) hc)
    have HN := Lib.hid (Kd.ne_bad (k := k) (vs := vs) (xs := xs) (by rw [HS.out.2]; exact hc))
    have hne : (Kd.code k vs != 0) = true := by simpa using hc
    clear hc
    go_enter Try.func19, Try.ntmps19
    go_wp2_with fail
    refine (dom_bad A c vs k w h hl HC.out).mono ?_
    rintro e w1 ⟨rfl, hb⟩
    unfold domV
    go_wp2_with fail
    go_returns
    exact ⟨none, 0, by rw [HN.out.1, HN.out.2, HS.out.2]; rfl, by rw [HN.out.1]; exact Ints.nil _ _ _, bAlloc hb _⟩
end Go.Proofs.Ytkcnaedffcmodaa
