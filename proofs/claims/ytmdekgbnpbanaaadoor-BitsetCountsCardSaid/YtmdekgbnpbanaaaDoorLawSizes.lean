/- The law BitsetSizes, walked: the members of a union and an intersection are together as many as those of both sets. -/
import Derived.Test.YtmdekgbnpbanaaaDoorLawAlgebra
import Derived.Test.YtmdekgbnpbanaaaDoorLawCompares
import Derived.Test.YtmdekgbnpbanaaaDoorWr
import Derived.Lib.QuietBelow
namespace Go.Proofs.YtmdekgbnpbanaaaDoor
open Go.RowKit Go.Sort
set_option linter.unusedVariables false

theorem count_g {n : Nat} {A : Option Addr} {la : List Nat} {f : Nat → Bool} {w : World} {ca : Nat} (hn : n ≤ 4096) (hw : Words w w.heap.size A la) (ho : Hid (Good n la f)) (N : Nat) (hN : Hid (Kb.cnt f n = N)) :
    Calls Tryd.prog 37 #[.agg #[.int .i64 (n : Int), .slice A la.length ca]] w fun e w' => e = .returned (.int .i64 (N : Int)) ∧ Below w.heap.size w w' := by
  rw [← hN.out, Kb.cnt_congr n (fun i hi => (ho.out.bit i hi).symm)]
  exact count_ex n A ca la w hw ho.out.ok hn

theorem sub_eq {n : Nat} {la lb lu : List Nat} {α β : Nat → Bool} (hn : n ≤ 4096) (ga : Good n la α) (gb : Good n lb β) (gu : Good n lu (fun j => α j || β j)) : subB n la n lb = eqB n lu n lb := by
  rw [eqB_eq (gu.valid hn) (gb.valid hn) rfl]
  by_cases h : ∃ j, j < n ∧ α j = true ∧ β j = false
  · obtain ⟨j, hj, h1, h2⟩ := h
    rw [subB_no ga.ok.lt j (by rw [ga.bit j hj, h1]) (by rw [gb.bit j hj, h2])]
    cases he : (lu == lb) with
    | false => rfl
    | true =>
      have e : lu = lb := by simpa using he
      have h3 := gu.bit j hj
      rw [e, gb.bit j hj, h1, h2] at h3
      exact absurd h3 (by decide)
  · have hs : ∀ j, j < n → α j = true → β j = true := fun j hj ha => by
      cases hb : β j with
      | true => rfl
      | false => exact absurd ⟨j, hj, ha, hb⟩ h
    rw [subB_yes (ga.valid hn) (gb.valid hn) rfl (fun j hj hb => by
      have hj' : j < n := by simpa using hj
      rw [ga.bit j hj'] at hb
      rw [gb.bit j hj']
      exact hs j hj' hb)]
    have e : lu = lb := Kb.eq_of_bits gu.ok gb.ok fun j hj => by
      rw [gu.bit j hj, gb.bit j hj]
      cases ha : α j with
      | false => rfl
      | true => rw [hs j hj ha]; rfl
    rw [e, beq_self_eq_true]

set_option maxRecDepth 100000 in
set_option maxHeartbeats 4000000 in
theorem sizes_walk (sa : Int) (A : Option Addr) (ca : Nat) (wa : List Nat) (sb : Int) (B : Option Addr) (cb : Nat) (wb : List Nat) (w : World)
    (ha : Words w w.heap.size A wa) (hb : Words w w.heap.size B wb) (ht : Tabs w) :
    Calls Tryd.prog 10 #[setV sa A wa.length ca, setV sb B wb.length cb] w fun e w' => e = .returned (.bool true) ∧ Below w.heap.size w w' := by
  unfold setV
  go_enter Tryd.func10, Tryd.ntmps10
  go_wp2_with fail
  have i1 := TwoB.new_ w sa A wa.length ca sb B wb.length cb 24 24
  refine (known_ok _ (ht.below i1.bel)).mono ?_
  rintro e w1 ⟨rfl, hb1⟩
  have i2 := i1.below hb1
  clear i1 hb1
  have c10 := i2.t1.c0
  have c11 := i2.t1.c1
  have d11 := i2.t2.c1
  by_cases h1 : 64 < wa.length
  · have h1' : (64 : Int) < (wa.length : Int) := by omega
    go_wp2_with fail
    go_ret
    exact ⟨rfl, i2.bel⟩
  have h1' : ¬ (64 : Int) < (wa.length : Int) := by omega
  by_cases h2 : 64 < wb.length
  · have h2' : (64 : Int) < (wb.length : Int) := by omega
    go_wp2_with fail
    go_ret
    exact ⟨rfl, i2.bel⟩
  have h2' : ¬ (64 : Int) < (wb.length : Int) := by omega
  go_wp2_with fail
  refine (rvalid_any sa A ca wa _ ((ha.below i2.bel).more i2.bel.size) (by omega)).mono ?_
  rintro e w2 ⟨rfl, hb2⟩
  have i3 := i2.below hb2
  clear i2 hb2 c10 c11 d11
  have d10 := i3.t2.c0
  have d11 := i3.t2.c1
  cases hva : Kb.validB sa wa with
  | false =>
    go_wp2_with fail
    go_ret
    exact ⟨rfl, i3.bel⟩
  | true =>
  go_wp2_with fail
  refine (rvalid_any sb B cb wb _ ((hb.below i3.bel).more i3.bel.size) (by omega)).mono ?_
  rintro e w3 ⟨rfl, hb3⟩
  have i5 := i3.below hb3
  clear i3 hb3 d10 d11
  have c10 := i5.t1.c0
  have d10 := i5.t2.c0
  cases hvb : Kb.validB sb wb with
  | false =>
    go_wp2_with fail
    go_ret
    exact ⟨rfl, i5.bel⟩
  | true =>
  by_cases hs : sa = sb
  case neg =>
    have hs' : (sa != sb) = true := by simpa using hs
    go_wp2_with fail
    go_ret
    exact ⟨rfl, i5.bel⟩
  subst hs
  obtain ⟨n, rfl⟩ := Int.eq_ofNat_of_zero_le ((Kb.validB_iff ha.lt).1 hva).1
  have hn : n ≤ 4096 := by have := ((Kb.validB_iff ha.lt).1 hva).2.1; omega
  have ga : Hid (Good n wa (Kb.bitAt wa)) := Lib.hid ⟨by simpa using ((Kb.validB_iff ha.lt).1 hva).2.2, fun _ _ => rfl⟩
  have gb : Hid (Good n wb (Kb.bitAt wb)) := Lib.hid ⟨by simpa using ((Kb.validB_iff hb.lt).1 hvb).2.2, fun _ _ => rfl⟩
  clear hva hvb h1 h2
  generalize Kb.bitAt wa = α at ga
  generalize Kb.bitAt wb = β at gb
  have K0 : Al w w3 n [(w.heap.size + 1, B, wb, cb, β), (w.heap.size, A, wa, ca, α)] :=
    ⟨i5.bel, ⟨i5.t2, (hb.below i5.bel).more i5.bel.size, gb⟩, ⟨i5.t1, (ha.below i5.bel).more i5.bel.size, ga⟩, trivial⟩
  clear c10 d10 i5 ga gb
  have hN := Lib.hid hn
  clear hn
  have x00 := K0.bx.2.1.t.c0
  have x01 := K0.bx.2.1.t.c1
  have x02 := K0.bx.2.1.t.lt
  have x10 := K0.bx.1.t.c0
  have x11 := K0.bx.1.t.c1
  have x12 := K0.bx.1.t.lt
  go_wp2_with fail
  clear x00 x01 x02 x10 x11 x12 h1' h2'
  refine (union_g hN.out K0.bx.2.1 K0.bx.1).mono ?_
  rintro e u1 ⟨l1, A1, c1, rfl, o1, hw, hbb⟩
  have M := K0.below hbb
  clear K0 hbb
  have x00 := M.bx.2.1.t.c0
  have x01 := M.bx.2.1.t.c1
  have x02 := M.bx.2.1.t.lt
  have x10 := M.bx.1.t.c0
  have x11 := M.bx.1.t.c1
  have x12 := M.bx.1.t.lt
  go_wp2_with fail
  have K1 := M.push c1 hw o1 24
  clear M hw o1 x00 x01 x02 x10 x11 x12
  generalize hg : u1.alloc (.cells #[.int .i64 (n : Int), .slice A1 l1.length c1] 24) = v1 at K1 ⊢
  clear hg
  refine (inter_g hN.out K1.bx.2.2.1 K1.bx.2.1).mono ?_
  rintro e u2 ⟨l2, A2, c2, rfl, o2, hw, hbb⟩
  have M := K1.below hbb
  clear K1 hbb
  have x00 := M.bx.2.2.1.t.c0
  have x01 := M.bx.2.2.1.t.c1
  have x02 := M.bx.2.2.1.t.lt
  go_wp2_with fail
  have K2 := M.push c2 hw o2 24
  clear M hw o2 x00 x01 x02
  generalize hg : u2.alloc (.cells #[.int .i64 (n : Int), .slice A2 l2.length c2] 24) = v2 at K2 ⊢
  clear hg
  refine (compl_g hN.out K2.bx.2.2.2.1).mono ?_
  rintro e u3 ⟨l3, A3, c3, rfl, o3, hw, hbb⟩
  have M := K2.below hbb
  clear K2 hbb
  go_wp2_with fail
  have K3 := M.push c3 hw o3 24
  clear M hw o3
  generalize hg : u3.alloc (.cells #[.int .i64 (n : Int), .slice A3 l3.length c3] 24) = v3 at K3 ⊢
  clear hg
  have b1 := K3.bx.2.2.2.2.1
  have b2 := K3.bx.2.2.2.1
  have b3 := K3.bx.2.2.1
  have b4 := K3.bx.2.1
  have b5 := K3.bx.1
  have hbel := K3.bel
  clear K3
  have hn := hN.out
  obtain ⟨NA, hA⟩ : ∃ N, Hid (Kb.cnt α n = N) := ⟨_, Lib.hid rfl⟩
  obtain ⟨NB, hB⟩ : ∃ N, Hid (Kb.cnt β n = N) := ⟨_, Lib.hid rfl⟩
  obtain ⟨NU, hU⟩ : ∃ N, Hid (Kb.cnt (fun j => α j || β j) n = N) := ⟨_, Lib.hid rfl⟩
  obtain ⟨NI, hI⟩ : ∃ N, Hid (Kb.cnt (fun j => α j && β j) n = N) := ⟨_, Lib.hid rfl⟩
  obtain ⟨NC, hC⟩ : ∃ N, Hid (Kb.cnt (fun j => !α j) n = N) := ⟨_, Lib.hid rfl⟩
  obtain ⟨E, hE⟩ : ∃ E, Hid (eqB n l1 n wb = E) := ⟨_, Lib.hid rfl⟩
  obtain ⟨S, hS⟩ : ∃ S, Hid (NU + NI = S) := ⟨_, Lib.hid rfl⟩
  have r1 := Kb.cnt_or_and α β n
  have r2 := Kb.cnt_not α n
  have r4 := Kb.cnt_le β n
  rw [hA.out, hB.out, hU.out, hI.out] at r1
  rw [hA.out, hC.out] at r2
  rw [hB.out] at r4
  have r3 := hS.out
  have v1 : IntKind.i64.wrap ((NU : Int) + (NI : Int)) = (S : Int) := by rw [IntKind.wrap_i64]; omega
  have v2 : IntKind.i64.wrap ((NA : Int) + (NB : Int)) = (S : Int) := by rw [IntKind.wrap_i64]; omega
  have v3' : IntKind.i64.wrap ((NA : Int) + (NC : Int)) = (n : Int) := by rw [IntKind.wrap_i64]; omega
  clear r1 r2 r3 r4 hn
  have k10 := cell_regrown b1.t.c0
  have k11 := cell_regrown b1.t.c1
  have q1 : ∀ d os, Calls Tryd.prog 37 #[.agg #[.int .i64 (n : Int), .slice A wa.length ca]] (grow (redrawn v3 d) os) fun e w'' => e = .returned (.int .i64 (NA : Int)) ∧ ∃ p : Regrown, w'' = grow (redrawn v3 p.d) p.os :=
    fun d os => Calls.regrown_of (count_g hN.out (b1.ws.regrown (Nat.le_refl _) d os) b1.ok NA hA)
  have k20 := cell_regrown b2.t.c0
  have k21 := cell_regrown b2.t.c1
  have q2 : ∀ d os, Calls Tryd.prog 37 #[.agg #[.int .i64 (n : Int), .slice B wb.length cb]] (grow (redrawn v3 d) os) fun e w'' => e = .returned (.int .i64 (NB : Int)) ∧ ∃ p : Regrown, w'' = grow (redrawn v3 p.d) p.os :=
    fun d os => Calls.regrown_of (count_g hN.out (b2.ws.regrown (Nat.le_refl _) d os) b2.ok NB hB)
  have k30 := cell_regrown b3.t.c0
  have k31 := cell_regrown b3.t.c1
  have q3 : ∀ d os, Calls Tryd.prog 37 #[.agg #[.int .i64 (n : Int), .slice A1 l1.length c1]] (grow (redrawn v3 d) os) fun e w'' => e = .returned (.int .i64 (NU : Int)) ∧ ∃ p : Regrown, w'' = grow (redrawn v3 p.d) p.os :=
    fun d os => Calls.regrown_of (count_g hN.out (b3.ws.regrown (Nat.le_refl _) d os) b3.ok NU hU)
  have k40 := cell_regrown b4.t.c0
  have k41 := cell_regrown b4.t.c1
  have q4 : ∀ d os, Calls Tryd.prog 37 #[.agg #[.int .i64 (n : Int), .slice A2 l2.length c2]] (grow (redrawn v3 d) os) fun e w'' => e = .returned (.int .i64 (NI : Int)) ∧ ∃ p : Regrown, w'' = grow (redrawn v3 p.d) p.os :=
    fun d os => Calls.regrown_of (count_g hN.out (b4.ws.regrown (Nat.le_refl _) d os) b4.ok NI hI)
  have k50 := cell_regrown b5.t.c0
  have k51 := cell_regrown b5.t.c1
  have q5 : ∀ d os, Calls Tryd.prog 37 #[.agg #[.int .i64 (n : Int), .slice A3 l3.length c3]] (grow (redrawn v3 d) os) fun e w'' => e = .returned (.int .i64 (NC : Int)) ∧ ∃ p : Regrown, w'' = grow (redrawn v3 p.d) p.os :=
    fun d os => Calls.regrown_of (count_g hN.out (b5.ws.regrown (Nat.le_refl _) d os) b5.ok NC hC)
  have q6 : ∀ d os, Calls Tryd.prog 34 #[.agg #[.int .i64 (n : Int), .slice A wa.length ca], .agg #[.int .i64 (n : Int), .slice B wb.length cb]] (grow (redrawn v3 d) os) fun e w'' => e = .returned (.bool E) ∧ ∃ p : Regrown, w'' = grow (redrawn v3 p.d) p.os :=
    fun d os => Calls.regrown_of (by
      rw [← hE.out, ← sub_eq hN.out b1.ok.out b2.ok.out b3.ok.out]
      exact subset_any n A ca wa n B cb wb _ (b1.ws.regrown (Nat.le_refl _) d os) (b2.ws.regrown (Nat.le_refl _) d os) (b1.ok.out.len hN.out) (b2.ok.out.len hN.out))
  have q7 : ∀ d os, Calls Tryd.prog 32 #[.agg #[.int .i64 (n : Int), .slice A1 l1.length c1], .agg #[.int .i64 (n : Int), .slice B wb.length cb]] (grow (redrawn v3 d) os) fun e w'' => e = .returned (.bool E) ∧ ∃ p : Regrown, w'' = grow (redrawn v3 p.d) p.os :=
    fun d os => Calls.regrown_of (by
      rw [← hE.out]
      exact equal_any n A1 c1 l1 n B cb wb _ (b3.ws.regrown (Nat.le_refl _) d os) (b2.ws.regrown (Nat.le_refl _) d os) (b3.ok.out.len hN.out) (b2.ok.out.len hN.out))
  have Q1 := Lib.hid q1
  have Q2 := Lib.hid q2
  have Q3 := Lib.hid q3
  have Q4 := Lib.hid q4
  have Q5 := Lib.hid q5
  have Q6 := Lib.hid q6
  have Q7 := Lib.hid q7
  clear q1 q2 q3 q4 q5 q6 q7 b1 b2 b3 b4 b5
  refine wp_region_quiet_below (by kernel_rfl) (by kernel_rfl) ?_
  repeat (quiet_step (first | (go_at_call 37; first | (with_reducible exact Q1.out _ _) | (with_reducible exact Q2.out _ _) | (with_reducible exact Q3.out _ _) | (with_reducible exact Q4.out _ _) | (with_reducible exact Q5.out _ _)) | (go_at_call 34; with_reducible exact Q6.out _ _) | (go_at_call 32; with_reducible exact Q7.out _ _)))
  refine wpQuiet_nil ?_
  intro _ hw'
  obtain ⟨⟨dq, osq⟩, hw''⟩ := hw'
  subst hw''
  go_wp2_with fail
  go_ret
  exact ⟨rfl, hbel.trans ((below_regrown v3 dq osq).mono hbel.size)⟩
end Go.Proofs.YtmdekgbnpbanaaaDoor
