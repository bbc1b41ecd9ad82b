/- The law PartitionSets, walked. -/
import Derived.Test.YtcicejmahlobhaaDoorS5
import Derived.Test.YtcicejmahlobhaaDoorBWb
import Derived.Test.YtcicejmahlobhaaDoorW9
namespace Go.Proofs.YtcicejmahlobhaaDoor
open Go.RowKit Bs
set_option linter.unusedVariables false

/-- what Part hands back: a set, and a code -/
def AnyRes (S : Int) (vs : List Nat) (code : Int) (w : World) (e : Ending) (w' : World) : Prop :=
  ∃ A c, e = .returned (.tuple #[.agg #[.int .i64 S, .slice A vs.length c], .int .i64 code]) ∧ Words w' w'.heap.size A vs ∧ Below w.heap.size w w'
theorem any_err {code : Int} {w : World} {e : Ending} {w' : World} (h : ErrRes code w e w') : AnyRes 0 [] code w e w' := ⟨none, 0, h.1, Words.nil _ _ _, h.2⟩
theorem any_set {n : Nat} {vs : List Nat} {w : World} {e : Ending} {w' : World} (h : SetRes n vs w e w') : AnyRes n vs 0 w e w' := h

theorem valid_small {size : Int} {p : List Int} {ws : List Nat} (hp : p.length ≤ 64) (h : scode p size ws = 0) : ∃ n : Nat, size = (n : Int) ∧ n ≤ 4096 := by
  have := (scode_zero h).2.2
  exact ⟨p.length, this, by omega⟩

theorem br_both (A : Option Addr) (ca : Nat) (p : List Int) (size : Int) (B : Option Addr) (cb : Nat) (ws : List Nat) (hp : p.length ≤ 64) (hl : ws.length ≤ 4) :
    ∃ x k : Int, ∀ W : World, Ints W W.heap.size A p → Words W W.heap.size B ws → Tabs W →
      Calls Tryd.prog 14 #[.slice A p.length ca, .agg #[.int .i64 size, .slice B ws.length cb]] W (BrRes x k W) ∧ Calls Tryd.prog 15 #[.slice A p.length ca, .agg #[.int .i64 size, .slice B ws.length cb]] W (BrRes x k W) := by
  by_cases hc : scode p size ws = 0
  · obtain ⟨n, rfl, hn⟩ := valid_small hp hc
    exact ⟨_, _, fun W h1 h2 h3 => ⟨branches_ok A ca p n B cb ws W h1 h2 hn hc h3, rbranches_ok A ca p n B cb ws W h1 h2 hn hc⟩⟩
  · exact ⟨_, _, fun W h1 h2 h3 => ⟨branches_bad A ca p size B cb ws W h1 h2 (by omega) (by omega) hc, rbranches_bad A ca p size B cb ws W h1 h2 (by omega) (by omega) hc⟩⟩

theorem pt_both (A : Option Addr) (ca : Nat) (p : List Int) (size : Int) (B : Option Addr) (cb : Nat) (ws : List Nat) (c : Int) (hp : p.length ≤ 64) (hl : ws.length ≤ 4) :
    ∃ (S : Int) (vs : List Nat) (k : Int), vs.length ≤ 1000 ∧ ∀ W : World, Ints W W.heap.size A p → Words W W.heap.size B ws →
      Calls Tryd.prog 16 #[.slice A p.length ca, .agg #[.int .i64 size, .slice B ws.length cb], .int .i64 c] W (AnyRes S vs k W) ∧ Calls Tryd.prog 17 #[.slice A p.length ca, .agg #[.int .i64 size, .slice B ws.length cb], .int .i64 c] W (AnyRes S vs k W) := by
  by_cases hc : scode p size ws = 0
  · obtain ⟨n, rfl, hn⟩ := valid_small hp hc
    by_cases hcc : 0 ≤ c ∧ c < (Kp.cnt0 p : Int)
    · obtain ⟨d, rfl⟩ := Int.eq_ofNat_of_zero_le hcc.1
      have hd : d < Kp.cnt0 p := by omega
      exact ⟨n, ptW p n ws d, 0, by unfold ptW; rw [Kb.mkWords_length]; unfold Kb.nw; omega, fun W h1 h2 => ⟨(part_ok A ca p n B cb ws d W h1 h2 hn hc hd).mono fun _ _ h => any_set h, (rpart_ok A ca p n B cb ws d W h1 h2 hn hc hd).mono fun _ _ h => any_set h⟩⟩
    · exact ⟨0, [], 3, by decide, fun W h1 h2 => ⟨(part_out A ca p n B cb ws c W h1 h2 (by omega) (by omega) hc hcc).mono fun _ _ h => any_err h, (rpart_out A ca p n B cb ws c W h1 h2 (by omega) (by omega) hc hcc).mono fun _ _ h => any_err h⟩⟩
  · exact ⟨0, [], scode p size ws, by decide, fun W h1 h2 => ⟨(part_bad A ca p size B cb ws c W h1 h2 (by omega) (by omega) hc).mono fun _ _ h => any_err h, (rpart_bad A ca p size B cb ws c W h1 h2 (by omega) (by omega) hc).mono fun _ _ h => any_err h⟩⟩

theorem RbInv.alloc {w wr : World} {x y : Value} (h : RbInv w wr x y) (o : Obj) : RbInv w (wr.alloc o) x y := ⟨h.t.alloc o, h.bel.alloc h.bel.size o⟩

set_option maxRecDepth 100000 in
set_option maxHeartbeats 4000000 in
theorem sets_walk (A : Option Addr) (ca : Nat) (p : List Int) (size : Int) (B : Option Addr) (cb : Nat) (ws : List Nat) (c : Int) (w : World) (ha : Ints w w.heap.size A p) (hb : Words w w.heap.size B ws) (ht : Tabs w) :
    Calls Tryd.prog 4 #[.slice A p.length ca, setV size B ws.length cb, .int .i64 c] w fun e w' => e = .returned (.bool true) ∧ Below w.heap.size w w' := by
  unfold setV
  go_enter Tryd.func4, Tryd.ntmps4
  go_wp2_with fail
  have K0 : RbInv w (w.alloc (.cells #[.int .i64 size, .slice B ws.length cb] 24)) (.int .i64 size) (.slice B ws.length cb) := ⟨Two.new_ _ _ _ _, (Below.refl _ _).alloc (Nat.le_refl _) _⟩
  refine (known_ok _).mono ?_
  rintro e w1 ⟨rfl, hb1⟩
  have K := K0.below hb1
  clear K0 hb1
  have c0 := K.t.c0
  have c1 := K.t.c1
  by_cases h1 : 64 < p.length
  · have h1' : (64 : Int) < (p.length : Int) := by omega
    go_wp2_with fail
    go_ret
    exact ⟨rfl, K.bel⟩
  have h1' : ¬ (64 : Int) < (p.length : Int) := by omega
  by_cases h2 : 4 < ws.length
  · have h2' : (4 : Int) < (ws.length : Int) := by omega
    go_wp2_with fail
    go_ret
    exact ⟨rfl, K.bel⟩
  have h2' : ¬ (4 : Int) < (ws.length : Int) := by omega
  obtain ⟨x, k, hbr⟩ := br_both A ca p size B cb ws (by omega) (by omega)
  obtain ⟨S, vs, k2, hvl, hpt⟩ := pt_both A ca p size B cb ws c (by omega) (by omega)
  have HBR := Lib.hid hbr
  have HPT := Lib.hid hpt
  clear hbr hpt h1 h2
  go_wp2_with fail
  clear h1' h2'
  refine (HBR.out _ ((ha.below K.bel).more K.bel.size) ((hb.below K.bel).more K.bel.size) (ht.below K.bel)).1.mono ?_
  rintro e w2 ⟨rfl, hb2⟩
  replace K := K.below hb2
  clear hb2
  replace c0 := K.t.c0
  replace c1 := K.t.c1
  go_wp2_with fail
  refine (HBR.out _ ((ha.below K.bel).more K.bel.size) ((hb.below K.bel).more K.bel.size) (ht.below K.bel)).2.mono ?_
  rintro e w3 ⟨rfl, hb3⟩
  replace K := K.below hb3
  clear hb3
  replace c0 := K.t.c0
  replace c1 := K.t.c1
  go_wp2_with fail
  refine (HPT.out _ ((ha.below K.bel).more K.bel.size) ((hb.below K.bel).more K.bel.size)).1.mono ?_
  rintro e w4 ⟨A1, q1, rfl, hW1, hb4⟩
  replace K := K.below hb4
  clear hb4
  replace c0 := K.t.c0
  replace c1 := K.t.c1
  have cl := K.t.lt
  go_wp2_with fail
  have T1 := Two.new_ w4 (.int .i64 S) (.slice A1 vs.length q1) 24
  replace K := K.alloc (.cells #[.int .i64 S, .slice A1 vs.length q1] 24)
  have hW1' := (hW1.alloc (Nat.le_refl _) (.cells #[.int .i64 S, .slice A1 vs.length q1] 24)).more (B' := (w4.alloc (.cells #[.int .i64 S, .slice A1 vs.length q1] 24)).heap.size) (by simp)
  clear hW1 cl
  generalize hg4 : w4.heap.size = g4 at T1 ⊢
  clear hg4
  generalize w4.alloc (.cells #[.int .i64 S, .slice A1 vs.length q1] 24) = v4 at *
  refine (HPT.out _ ((ha.below K.bel).more K.bel.size) ((hb.below K.bel).more K.bel.size)).2.mono ?_
  rintro e w5 ⟨A2, q2, rfl, hW2, hb5⟩
  replace K := K.below hb5
  replace T1 := T1.below hb5 T1.lt
  replace hW1' := (hW1'.below hb5).more hb5.size
  clear hb5 c0 c1
  have d0 := T1.c0
  have d1 := T1.c1
  have dl := T1.lt
  go_wp2_with (go_at_call 18; refine (Bs.seq_any A1 A2 q1 q2 vs vs _ ((hW1'.alloc (Nat.le_refl _) _).more (by simp)) ((hW2.alloc (Nat.le_refl _) _).more (by simp)) (by omega)).mono ?_; rintro e w6 ⟨rfl, q, rfl⟩; rw [beq_self_eq_true])
  go_ret
  exact ⟨rfl, bDrew (K.alloc _).bel q⟩
end Go.Proofs.YtcicejmahlobhaaDoor
