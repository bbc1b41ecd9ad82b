/- Walks: Space, Rank, Unrank, Next, Inputs of the package. -/
import Derived.Test.YtkcnaedffcmodaaW3
namespace Go.Proofs.Ytkcnaedffcmodaa
open Go.RowKit Go.Maps
set_option linter.unusedVariables false

theorem dom_ok (A : Option Addr) (c : Nat) (vs : List Kd.V) (k : Int) (w : World) (h : Vrs w w.heap.size A vs) (hl : vs.length ≤ 1000000) (hc : Kd.code k vs = 0) :
    Calls Try.prog 26 #[.slice A vs.length c, .int .i64 k] w fun e w' => ∃ A' c', e = .returned (.tuple #[domV A' (Kd.digs k vs).length c' (Kd.pr (Kd.digs k vs) : Nat), .int .i64 0]) ∧ Dgs w' w'.heap.size A' (Kd.digs k vs) ∧ Below w.heap.size w w' := by
  refine (dom_any A c vs k w h hl).mono ?_
  rintro e w' ⟨hb, ⟨_, A', c', he, hD⟩ | ⟨h1, _⟩⟩
  · exact ⟨A', c', he, hD, hb⟩
  · exact absurd hc h1
theorem dom_bad (A : Option Addr) (c : Nat) (vs : List Kd.V) (k : Int) (w : World) (h : Vrs w w.heap.size A vs) (hl : vs.length ≤ 1000000) (hc : Kd.code k vs ≠ 0) :
    Calls Try.prog 26 #[.slice A vs.length c, .int .i64 k] w fun e w' => e = .returned (.tuple #[domV none 0 0 0, .int .i64 (Kd.code k vs)]) ∧ Below w.heap.size w w' := by
  refine (dom_any A c vs k w h hl).mono ?_
  rintro e w' ⟨hb, ⟨h1, _⟩ | ⟨_, he⟩⟩
  · exact absurd h1 hc
  · exact ⟨he, hb⟩

namespace Kd
def spN (k : Int) (vs : List V) : Int := if code k vs = 0 then (pr (digs k vs) : Nat) else 0
def raN (k : Int) (vs : List V) (xs : List Int) : Int := if code k vs = 0 then rkN (digs k vs) xs else 0
def raC (k : Int) (vs : List V) (xs : List Int) : Int := if code k vs = 0 then rkC (digs k vs) xs else code k vs
def uaX (k : Int) (vs : List V) (r : Int) : List Int := if code k vs = 0 then unX (digs k vs) r else []
def uaC (k : Int) (vs : List V) (r : Int) : Int := if code k vs = 0 then unC (digs k vs) r else code k vs
theorem spN_ok {k : Int} {vs : List V} (h : code k vs = 0) : spN k vs = (pr (digs k vs) : Nat) := if_pos h
theorem spN_bad {k : Int} {vs : List V} (h : code k vs ≠ 0) : spN k vs = 0 := if_neg h
theorem ra_ok {k : Int} {vs : List V} {xs : List Int} (h : code k vs = 0) : raN k vs xs = rkN (digs k vs) xs ∧ raC k vs xs = rkC (digs k vs) xs := ⟨if_pos h, if_pos h⟩
theorem ra_bad {k : Int} {vs : List V} {xs : List Int} (h : code k vs ≠ 0) : raN k vs xs = 0 ∧ raC k vs xs = code k vs := ⟨if_neg h, if_neg h⟩
theorem ua_ok {k : Int} {vs : List V} {r : Int} (h : code k vs = 0) : uaX k vs r = unX (digs k vs) r ∧ uaC k vs r = unC (digs k vs) r := ⟨if_pos h, if_pos h⟩
theorem ua_bad {k : Int} {vs : List V} {r : Int} (h : code k vs ≠ 0) : uaX k vs r = [] ∧ uaC k vs r = code k vs := ⟨if_neg h, if_neg h⟩
end Kd

set_option maxRecDepth 100000 in
set_option maxHeartbeats 1000000 in
theorem space_any (A : Option Addr) (c : Nat) (vs : List Kd.V) (k : Int) (w : World) (h : Vrs w w.heap.size A vs) (hl : vs.length ≤ 1000000) :
    Calls Try.prog 12 #[.slice A vs.length c, .int .i64 k] w (NumRes (Kd.spN k vs) (Kd.code k vs) w) := by
  by_cases hc : Kd.code k vs = 0
  · have HC := Lib.hid hc
    have HS := Lib.hid (Kd.spN_ok hc)
    clear hc
    go_enter Try.func12, Try.ntmps12
    go_wp2_with fail
    refine (dom_ok A c vs k w h hl HC.out).mono ?_
    rintro e w1 ⟨A', c', rfl, hD, hb⟩
    unfold domV
    go_wp2_with fail
    go_ret2
    exact ⟨by rw [HS.out, HC.out]; rfl, bAlloc hb _⟩
  · have HC := Lib.hid hc
    have HS := Lib.hid (Kd.spN_bad hc)
    clear hc
    go_enter Try.func12, Try.ntmps12
    go_wp2_with fail
    refine (dom_bad A c vs k w h hl HC.out).mono ?_
    rintro e w1 ⟨rfl, hb⟩
    unfold domV
    go_wp2_with fail
    go_ret2
    exact ⟨by rw [HS.out]; rfl, bAlloc hb _⟩

set_option maxRecDepth 100000 in
set_option maxHeartbeats 1000000 in
theorem rank_all (A : Option Addr) (c : Nat) (vs : List Kd.V) (k : Int) (B : Option Addr) (cb : Nat) (xs : List Int) (w : World) (h : Vrs w w.heap.size A vs) (hl : vs.length ≤ 1000000) (hx : Ints w w.heap.size B xs) :
    Calls Try.prog 14 #[.slice A vs.length c, .int .i64 k, .slice B xs.length cb] w (NumRes (Kd.raN k vs xs) (Kd.raC k vs xs) w) := by
  by_cases hc : Kd.code k vs = 0
  · have HC := Lib.hid hc
    have HS := Lib.hid (Kd.ra_ok (xs := xs) hc)
    have hok := Lib.hid (Kd.code_ok hc).2.2
    have hdl : (Kd.digs k vs).length ≤ 1000000 := Nat.le_trans Kd.digs_le hl
    clear hc
    go_enter Try.func14, Try.ntmps14
    go_wp2_with fail
    refine (dom_ok A c vs k w h hl HC.out).mono ?_
    rintro e w1 ⟨A', c', rfl, hD, hb⟩
    have b1 := newB1 w1 (.cells #[.slice A' (Kd.digs k vs).length c', .int .i64 (Kd.pr (Kd.digs k vs) : Nat)] 54)
    unfold domV
    go_wp2_with fail
    refine (rank_any A' c' (Kd.digs k vs) (Kd.pr (Kd.digs k vs) : Nat) B cb xs _ (hD.at b1) hok.out hdl ((hx.at hb).at b1)).mono ?_
    rintro e w2 ⟨rfl, hb2⟩
    go_wp2_with fail
    go_ret2
    exact ⟨by rw [HS.out.1, HS.out.2]; rfl, bTrans (bTrans hb b1) hb2⟩
  · have HC := Lib.hid hc
    have HS := Lib.hid (Kd.ra_bad (xs := xs) hc)
    have hne : (Kd.code k vs != 0) = true := by simpa using hc
    clear hc
    go_enter Try.func14, Try.ntmps14
    go_wp2_with fail
    refine (dom_bad A c vs k w h hl HC.out).mono ?_
    rintro e w1 ⟨rfl, hb⟩
    unfold domV
    go_wp2_with fail
    go_ret2
    exact ⟨by rw [HS.out.1, HS.out.2]; rfl, bAlloc hb _⟩

set_option maxRecDepth 100000 in
set_option maxHeartbeats 1000000 in
theorem unrank_all (A : Option Addr) (c : Nat) (vs : List Kd.V) (k : Int) (r : Int) (w : World) (h : Vrs w w.heap.size A vs) (hl : vs.length ≤ 1000000) :
    Calls Try.prog 16 #[.slice A vs.length c, .int .i64 k, .int .i64 r] w (LisRes (Kd.uaX k vs r) (Kd.uaC k vs r) w) := by
  by_cases hc : Kd.code k vs = 0
  · have HC := Lib.hid hc
    have HS := Lib.hid (Kd.ua_ok (r := r) hc)
    have hok := Lib.hid (Kd.code_ok hc).2.2
    have hdl : (Kd.digs k vs).length ≤ 1000000 := Nat.le_trans Kd.digs_le hl
    clear hc
    go_enter Try.func16, Try.ntmps16
    go_wp2_with fail
    refine (dom_ok A c vs k w h hl HC.out).mono ?_
    rintro e w1 ⟨A', c', rfl, hD, hb⟩
    have b1 := newB1 w1 (.cells #[.slice A' (Kd.digs k vs).length c', .int .i64 (Kd.pr (Kd.digs k vs) : Nat)] 54)
    unfold domV
    go_wp2_with fail
    refine (unrank_any A' c' (Kd.digs k vs) r _ (hD.at b1) hok.out hdl).mono ?_
    rintro e w2 ⟨A2, c2, rfl, hI, hb2⟩
    go_wp2_with fail
    go_ret2
    exact ⟨A2, c2, by rw [HS.out.1, HS.out.2]; rfl, by rw [HS.out.1]; exact hI, bTrans (bTrans hb b1) hb2⟩
  · have HC := Lib.hid hc
    have HS := Lib.hid (Kd.ua_bad (r := r) hc)
    have hne : (Kd.code k vs != 0) = true := by simpa using hc
    clear hc
    go_enter Try.func16, Try.ntmps16
    go_wp2_with fail
    refine (dom_bad A c vs k w h hl HC.out).mono ?_
    rintro e w1 ⟨rfl, hb⟩
    unfold domV
    go_wp2_with fail
    go_ret2
    exact ⟨none, 0, by rw [HS.out.1, HS.out.2]; rfl, by rw [HS.out.1]; exact Ints.nil _ _ _, bAlloc hb _⟩
end Go.Proofs.Ytkcnaedffcmodaa
