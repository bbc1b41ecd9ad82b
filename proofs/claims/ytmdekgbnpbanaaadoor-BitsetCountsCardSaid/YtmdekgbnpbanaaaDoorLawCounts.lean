/- The law BitsetCounts, walked: Count, Members, Least and Next answer as the reference does. -/
import Derived.Test.YtmdekgbnpbanaaaDoorWs
import Derived.BigRegion
namespace Go.Proofs.YtmdekgbnpbanaaaDoor
open Go.RowKit
set_option linter.unusedVariables false

theorem WkInv.drewN {w wr : World} {x y : Value} {A : Option Addr} {zs : List Int} (h : WkInv w wr x y A zs) (m : Nat) : WkInv w (wr.drewN m) x y A zs := h.below ⟨rfl, rfl, rfl, Nat.le_refl _, fun _ _ => rfl⟩

theorem WkInv.drew {w wr : World} {x y : Value} {A : Option Addr} {zs : List Int} (h : WkInv w wr x y A zs) : WkInv w wr.drew x y A zs := ⟨h.t.drew, (h.zs.below (bDrew (Below.refl _ wr) 1)).more (Nat.le_refl _), bDrew h.bel 1⟩

set_option maxRecDepth 100000 in
set_option maxHeartbeats 40000000 in
theorem counts_walk (sa : Int) (A : Option Addr) (ca : Nat) (wa : List Nat) (i : Int) (w : World) (ha : Words w w.heap.size A wa) (hi : -9223372036854775808 ≤ i) (ht : Tabs w) :
    Calls Tryd.prog 7 #[setV sa A wa.length ca, .int .i64 i] w fun e w' => e = .returned (.bool true) ∧ Below w.heap.size w w' := by
  unfold setV
  go_enter Tryd.func7, Tryd.ntmps7
  go_wp2_with fail
  have t1 : Two (w.alloc (.cells #[.int .i64 sa, .slice A wa.length ca] 24)) w.heap.size (.int .i64 sa) (.slice A wa.length ca) := Two.new_ _ _ _ _
  have B1 : Below w.heap.size w (w.alloc (.cells #[.int .i64 sa, .slice A wa.length ca] 24)) := (Below.refl _ _).alloc (Nat.le_refl _) _
  refine (known_ok _ (ht.below B1)).mono ?_
  rintro e w1 ⟨rfl, hb1⟩
  have t2 := t1.below hb1 t1.lt
  have B2 := B1.trans (hb1.mono B1.size)
  clear t1 B1 hb1
  have c10 := t2.c0
  have c11 := t2.c1
  by_cases h1 : 64 < wa.length
  · have h1' : (64 : Int) < (wa.length : Int) := by omega
    go_wp2_with fail
    go_ret
    exact ⟨rfl, B2⟩
  have h1' : ¬ (64 : Int) < (wa.length : Int) := by omega
  have hl : wa.length ≤ 140737488351232 := by omega
  clear h1
  have hle := (memL_le sa wa).1
  have hle2 := (memL_le sa wa).2
  go_wp2_with fail
  refine (rmembers_any sa A ca wa _ ((ha.below B2).more B2.size) hl).mono ?_
  rintro e w2 ⟨A1, c1, rfl, hI, hb2⟩
  have t3 := t2.below hb2 t2.lt
  have K0 : WkInv w w2 (.int .i64 sa) (.slice A wa.length ca) A1 (zL (memL sa wa)) := ⟨t3, hI, B2.trans (hb2.mono B2.size)⟩
  clear t2 t3 B2 hI hb2 c10 c11
  have cnt : ∀ W : World, Words W W.heap.size A wa → Calls Tryd.prog 37 #[.agg #[.int .i64 sa, .slice A wa.length ca]] W (IntRes ((memL sa wa).length : Int) W) := fun W h => count_any sa A ca wa W h hl
  have mem : ∀ W : World, Words W W.heap.size A wa → Tabs W → Calls Tryd.prog 39 #[.agg #[.int .i64 sa, .slice A wa.length ca]] W (MemRes (memL sa wa) W) := fun W h h' => members_any sa A ca wa W h hl h'
  have lea : ∀ W : World, Words W W.heap.size A wa → Tabs W → Calls Tryd.prog 40 #[.agg #[.int .i64 sa, .slice A wa.length ca]] W (IntRes (nx (memL sa wa) (-1)) W) := fun W h h' => least_any sa A ca wa W h hl h'
  have nxt : ∀ W : World, Words W W.heap.size A wa → Tabs W → Calls Tryd.prog 42 #[.agg #[.int .i64 sa, .slice A wa.length ca], .int .i64 i] W (IntRes (nx (memL sa wa) i) W) := fun W h h' => next_any sa A ca wa i W h hl hi h'
  have rn1 : ∀ W : World, Words W W.heap.size A wa → Calls Tryd.prog 41 #[.agg #[.int .i64 sa, .slice A wa.length ca], .int .i64 (-1)] W (IntRes (nx (memL sa wa) (-1)) W) := fun W h => rnext_any sa A ca wa (-1) W h hl
  have rn2 : ∀ W : World, Words W W.heap.size A wa → Calls Tryd.prog 41 #[.agg #[.int .i64 sa, .slice A wa.length ca], .int .i64 i] W (IntRes (nx (memL sa wa) i) W) := fun W h => rnext_any sa A ca wa i W h hl
  revert hle hle2 K0 cnt mem lea nxt rn1 rn2
  unfold MemRes
  generalize nx (memL sa wa) (-1) = x1
  generalize nx (memL sa wa) i = x2
  rw [← zL_length (memL sa wa)]
  generalize zL (memL sa wa) = zs
  intro hle hle2 K0 cnt mem lea nxt rn1 rn2
  have Hcnt := Lib.hid cnt
  have Hmem := Lib.hid mem
  have Hlea := Lib.hid lea
  have Hnxt := Lib.hid nxt
  have Hrn1 := Lib.hid rn1
  have Hrn2 := Lib.hid rn2
  have hzl : zs.length ≤ 140737488351232 := by omega
  clear cnt mem lea nxt rn1 rn2 hle2
  have c10 := K0.t.c0
  have c11 := K0.t.c1
  go_wp2_with fail
  clear h1' c10 c11
  have K := K0.drew
  clear K0
  have c10 := K.t.c0
  have c11 := K.t.c1
  go_region_with (first
    | (go_at_call 37; refine (Hcnt.out _ ((ha.below K.bel).more K.bel.size)).mono ?_; rintro e w4 ⟨rfl, hb4⟩; replace K := K.below hb4; clear hb4; replace c10 := K.t.c0; replace c11 := K.t.c1)
    | (go_at_call 40; refine (Hlea.out _ ((ha.below K.bel).more K.bel.size) (ht.below K.bel)).mono ?_; rintro e w4 ⟨rfl, hb4⟩; replace K := K.below hb4; clear hb4; replace c10 := K.t.c0; replace c11 := K.t.c1)
    | (go_at_call 42; refine (Hnxt.out _ ((ha.below K.bel).more K.bel.size) (ht.below K.bel)).mono ?_; rintro e w4 ⟨rfl, hb4⟩; replace K := K.below hb4; clear hb4; replace c10 := K.t.c0; replace c11 := K.t.c1)
    | (go_at_call 41; (first | (with_reducible refine (Hrn1.out _ ((ha.below K.bel).more K.bel.size)).mono ?_) | (with_reducible refine (Hrn2.out _ ((ha.below K.bel).more K.bel.size)).mono ?_)); rintro e w4 ⟨rfl, hb4⟩; replace K := K.below hb4; clear hb4; replace c10 := K.t.c0; replace c11 := K.t.c1)
    | (go_at_call 39; refine (Hmem.out _ ((ha.below K.bel).more K.bel.size) (ht.below K.bel)).mono ?_; rintro e w4 ⟨A2, c2, rfl, hM, hb4⟩; replace K := K.below hb4; clear hb4; replace c10 := K.t.c0; replace c11 := K.t.c1)
    | (go_at_call 38; refine (seqi_any A2 A1 c2 c1 zs zs _ hM K.zs hzl).mono ?_; rintro e w4 ⟨rfl, q, rfl⟩; rw [beq_self_eq_true]; replace K := K.drewN q; clear hM; replace c10 := K.t.c0; replace c11 := K.t.c1))
  all_goals
    go_wp2_with fail
    go_ret
    exact ⟨rfl, K.bel⟩
end Go.Proofs.YtmdekgbnpbanaaaDoor
