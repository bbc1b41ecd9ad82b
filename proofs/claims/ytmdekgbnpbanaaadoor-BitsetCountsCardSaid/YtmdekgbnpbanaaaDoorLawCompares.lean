/- The law BitsetCompares, walked: for every two sets of whatever words Equal and Subset answer as the reference does, and a set equals itself exactly if it is valid. -/
import Derived.Test.YtmdekgbnpbanaaaDoorWa
import Derived.Test.YtmdekgbnpbanaaaDoorWd
import Derived.Lib.QuietBelow
namespace Go.Proofs.YtmdekgbnpbanaaaDoor
open Go.RowKit Go.Sort
set_option linter.unusedVariables false

theorem Words.regrown {w : World} {B : Nat} {A : Option Addr} {ws : List Nat} (h : Words w B A ws) (hB : B ≤ w.heap.size) (d : Nat) (os : Array Obj) : Words (grow (redrawn w d) os) (grow (redrawn w d) os).heap.size A ws :=
  (h.below ((below_regrown w d os).mono hB)).more (Nat.le_trans hB (below_regrown w d os).size)

theorem eqB_self {sa : Int} {wa : List Nat} : eqB sa wa sa wa = Kb.validB sa wa := by unfold eqB; simp

set_option maxRecDepth 100000 in
set_option maxHeartbeats 1000000 in
theorem compares_walk (sa : Int) (A : Option Addr) (ca : Nat) (wa : List Nat) (sb : Int) (B : Option Addr) (cb : Nat) (wb : List Nat) (w : World) (ha : Words w w.heap.size A wa) (hb : Words w w.heap.size B wb) (ht : Tabs w) :
    Calls Tryd.prog 6 #[setV sa A wa.length ca, setV sb B wb.length cb] w fun e w' => e = .returned (.bool true) ∧ Below w.heap.size w w' := by
  unfold setV
  by_cases h1 : 64 < wa.length
  · have h1' : (64 : Int) < (wa.length : Int) := by omega
    go_enter Tryd.func6, Tryd.ntmps6
    go_wp2_with fail
    have i1 := TwoB.new_ w sa A wa.length ca sb B wb.length cb 24 24
    refine (known_ok _ (ht.below i1.bel)).mono ?_
    rintro e w1 ⟨rfl, hb1⟩
    have i2 := i1.below hb1
    have c11 := i2.t1.c1
    go_wp2_with fail
    go_ret
    exact ⟨rfl, i2.bel⟩
  · by_cases h2 : 64 < wb.length
    · have h1' : ¬ (64 : Int) < (wa.length : Int) := by omega
      have h2' : (64 : Int) < (wb.length : Int) := by omega
      go_enter Tryd.func6, Tryd.ntmps6
      go_wp2_with fail
      have i1 := TwoB.new_ w sa A wa.length ca sb B wb.length cb 24 24
      refine (known_ok _ (ht.below i1.bel)).mono ?_
      rintro e w1 ⟨rfl, hb1⟩
      have i2 := i1.below hb1
      have c11 := i2.t1.c1
      have d11 := i2.t2.c1
      go_wp2_with fail
      go_ret
      exact ⟨rfl, i2.bel⟩
    · have hla : wa.length ≤ 140737488351232 := by omega
      have hlb : wb.length ≤ 140737488351232 := by omega
      have h1' : ¬ (64 : Int) < (wa.length : Int) := by omega
      have h2' : ¬ (64 : Int) < (wb.length : Int) := by omega
      go_enter Tryd.func6, Tryd.ntmps6
      go_wp2_with fail
      have i1 := TwoB.new_ w sa A wa.length ca sb B wb.length cb 24 24
      refine (known_ok _ (ht.below i1.bel)).mono ?_
      rintro e w1 ⟨rfl, hb1⟩
      have i2 := i1.below hb1
      clear i1 hb1
      have c11 := i2.t1.c1
      have d11 := i2.t2.c1
      go_wp2_with fail
      have hX := (ha.below i2.bel).more i2.bel.size
      have hY := (hb.below i2.bel).more i2.bel.size
      have k10 := cell_regrown i2.t1.c0
      have k11 := cell_regrown i2.t1.c1
      have k20 := cell_regrown i2.t2.c0
      have k21 := cell_regrown i2.t2.c1
      obtain ⟨E, hE⟩ : ∃ E, Hid (eqB sa wa sb wb = E) := ⟨_, Lib.hid rfl⟩
      obtain ⟨S, hS⟩ : ∃ S, Hid (subB sa wa sb wb = S) := ⟨_, Lib.hid rfl⟩
      obtain ⟨V, hV⟩ : ∃ V, Hid (Kb.validB sa wa = V) := ⟨_, Lib.hid rfl⟩
      have q1 : ∀ d os, Calls Tryd.prog 32 #[.agg #[.int .i64 sa, .slice A wa.length ca], .agg #[.int .i64 sb, .slice B wb.length cb]] (grow (redrawn w1 d) os) fun e w'' => e = .returned (.bool E) ∧ ∃ p : Regrown, w'' = grow (redrawn w1 p.d) p.os :=
        fun d os => Calls.regrown_of (by rw [← hE.out]; exact equal_any sa A ca wa sb B cb wb _ (hX.regrown (Nat.le_refl _) d os) (hY.regrown (Nat.le_refl _) d os) hla hlb)
      have q2 : ∀ d os, Calls Tryd.prog 33 #[.agg #[.int .i64 sa, .slice A wa.length ca], .agg #[.int .i64 sb, .slice B wb.length cb]] (grow (redrawn w1 d) os) fun e w'' => e = .returned (.bool E) ∧ ∃ p : Regrown, w'' = grow (redrawn w1 p.d) p.os :=
        fun d os => Calls.regrown_of (by rw [← hE.out]; exact requal_any sa A ca wa sb B cb wb _ (hX.regrown (Nat.le_refl _) d os) (hY.regrown (Nat.le_refl _) d os) hla hlb)
      have q3 : ∀ d os, Calls Tryd.prog 34 #[.agg #[.int .i64 sa, .slice A wa.length ca], .agg #[.int .i64 sb, .slice B wb.length cb]] (grow (redrawn w1 d) os) fun e w'' => e = .returned (.bool S) ∧ ∃ p : Regrown, w'' = grow (redrawn w1 p.d) p.os :=
        fun d os => Calls.regrown_of (by rw [← hS.out]; exact subset_any sa A ca wa sb B cb wb _ (hX.regrown (Nat.le_refl _) d os) (hY.regrown (Nat.le_refl _) d os) hla hlb)
      have q4 : ∀ d os, Calls Tryd.prog 35 #[.agg #[.int .i64 sa, .slice A wa.length ca], .agg #[.int .i64 sb, .slice B wb.length cb]] (grow (redrawn w1 d) os) fun e w'' => e = .returned (.bool S) ∧ ∃ p : Regrown, w'' = grow (redrawn w1 p.d) p.os :=
        fun d os => Calls.regrown_of (by rw [← hS.out]; exact rsubset_any sa A ca wa sb B cb wb _ (hX.regrown (Nat.le_refl _) d os) (hY.regrown (Nat.le_refl _) d os) hla hlb)
      have q5 : ∀ d os, Calls Tryd.prog 32 #[.agg #[.int .i64 sa, .slice A wa.length ca], .agg #[.int .i64 sa, .slice A wa.length ca]] (grow (redrawn w1 d) os) fun e w'' => e = .returned (.bool V) ∧ ∃ p : Regrown, w'' = grow (redrawn w1 p.d) p.os :=
        fun d os => Calls.regrown_of (by rw [← hV.out, ← eqB_self]; exact equal_any sa A ca wa sa A ca wa _ (hX.regrown (Nat.le_refl _) d os) (hX.regrown (Nat.le_refl _) d os) hla hla)
      have q6 : ∀ d os, Calls Tryd.prog 19 #[.agg #[.int .i64 sa, .slice A wa.length ca]] (grow (redrawn w1 d) os) fun e w'' => e = .returned (.bool V) ∧ ∃ p : Regrown, w'' = grow (redrawn w1 p.d) p.os :=
        fun d os => Calls.regrown_of (by rw [← hV.out]; exact rvalid_any sa A ca wa _ (hX.regrown (Nat.le_refl _) d os) hla)
      have Q1 := Lib.hid q1
      have Q2 := Lib.hid q2
      have Q3 := Lib.hid q3
      have Q4 := Lib.hid q4
      have Q5 := Lib.hid q5
      have Q6 := Lib.hid q6
      clear q1 q2 q3 q4 q5 q6 c11 d11
      refine wp_region_quiet_below (by kernel_rfl) (by kernel_rfl) ?_
      repeat (quiet_step (first | (go_at_call 32; first | (with_reducible exact Q1.out _ _) | (with_reducible exact Q5.out _ _)) | (go_at_call 33; with_reducible exact Q2.out _ _) | (go_at_call 34; with_reducible exact Q3.out _ _) | (go_at_call 35; with_reducible exact Q4.out _ _) | (go_at_call 19; with_reducible exact Q6.out _ _)))
      refine wpQuiet_nil ?_
      intro _ hw'
      obtain ⟨⟨dq, osq⟩, hw''⟩ := hw'
      subst hw''
      go_wp2_with fail
      go_ret
      exact ⟨rfl, i2.bel.trans ((below_regrown w1 dq osq).mono i2.bel.size)⟩
end Go.Proofs.YtmdekgbnpbanaaaDoor
