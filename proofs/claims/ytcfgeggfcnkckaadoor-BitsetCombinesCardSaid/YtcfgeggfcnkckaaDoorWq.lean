/- Walks: the reference's Combine. -/
import Derived.Test.YtcfgeggfcnkckaaDoorWp
import Derived.Deep.DeepCutAuto
import Derived.BigRegion
namespace Go.Proofs.YtcfgeggfcnkckaaDoor
open Go.RowKit
set_option linter.unusedVariables false

/-- what Flags hands back -/
def FlRes (n : Nat) (f : Nat → Bool) (w : World) (e : Ending) (w' : World) : Prop :=
  ∃ A' c', e = .returned (.slice A' n c') ∧ Row w' w'.heap.size A' (bcells f n) ∧ Below w.heap.size w w'
theorem flags_res (n : Nat) (A : Option Addr) (c : Nat) (ws : List Nat) (w : World) (h : Words w w.heap.size A ws) (hl : ws.length ≤ 64) (hn : n ≤ 4096) :
    Calls Tryd.prog 52 #[.agg #[.int .i64 (n : Int), .slice A ws.length c]] w (FlRes n (Kb.bitAt ws) w) :=
  (flags_ok n A c ws w h hl hn).mono fun _ _ ⟨A', c', he, ho, hb⟩ => ⟨A', c', he, Row.of_own ho, hb⟩

/-- Combine's world in the loop -/
structure CmInv (w wr : World) (g n : Nat) (x1 y1 x2 y2 : Value) (A' B' : Option Addr) (fa fb h : Nat → Bool) : Prop where
  ca : CaInv w wr x1 y1 x2 y2
  ra : Row wr g A' (bcells fa n)
  rb : Row wr g B' (bcells fb n)
  row : BBlk wr g (bcells h n)
  hg : w.heap.size + 2 < g
theorem CmInv.set_ {w wr : World} {g n : Nat} {x1 y1 x2 y2 : Value} {A' B' : Option Addr} {fa fb h : Nat → Bool} (i : CmInv w wr g n x1 y1 x2 y2 A' B' fa fb h) (k : Nat) (m : Bool) :
    CmInv w (wr.setCell ⟨g, k, none⟩ (.bool m)) g n x1 y1 x2 y2 A' B' fa fb (fun j => if j = k then m else h j) := by
  have := i.hg
  exact ⟨⟨i.ca.t1.far (by simp; omega) _, i.ca.t2.far (by simp; omega) _, i.ca.t3.far (by simp; omega) _, i.ca.bel.setCell (by simp; omega) _⟩, i.ra.far (Nat.le_refl _) _, i.rb.far (Nat.le_refl _) _, by rw [← bcells_set]; exact i.row.set_ k _, i.hg⟩

theorem CaInv.drew {w wr : World} {x1 y1 x2 y2 : Value} (h : CaInv w wr x1 y1 x2 y2) : CaInv w wr.drew x1 y1 x2 y2 := ⟨h.t1.drew, h.t2.drew, h.t3.drew, h.bel.drew⟩

/-- Combine's world behind the draws -/
structure CfInv (w wr : World) (n : Nat) (x1 y1 x2 y2 : Value) (A' B' : Option Addr) (fa fb : Nat → Bool) : Prop where
  ca : CaInv w wr x1 y1 x2 y2
  ra : Row wr wr.heap.size A' (bcells fa n)
  rb : Row wr wr.heap.size B' (bcells fb n)

set_option maxRecDepth 100000 in
set_option maxHeartbeats 2000000 in
theorem rcombine0_ok (n : Nat) (A : Option Addr) (ca : Nat) (wa : List Nat) (B : Option Addr) (cb : Nat) (wb : List Nat) (w : World) (ha : Words w w.heap.size A wa) (hb : Words w w.heap.size B wb)
    (hoa : Kb.Ok n wa) (hob : Kb.Ok n wb) (hn : n ≤ 4096) :
    Calls Tryd.prog 30 #[.int .i64 0, setV n A wa.length ca, setV n B wb.length cb] w (SetRes n (Kb.mkWords n (fun j => (fun p q => p || q) (Kb.bitAt wa j) (Kb.bitAt wb j))) w) := by
  have hla : wa.length ≤ 64 := by rw [hoa.len]; unfold Kb.nw; omega
  have hlb : wb.length ≤ 64 := by rw [hob.len]; unfold Kb.nw; omega
  have hva : Hid (Kb.validB n wa = true) := Lib.hid ((Kb.validB_iff ha.lt).2 ⟨by omega, by omega, hoa⟩)
  have hvb : Hid (Kb.validB n wb = true) := Lib.hid ((Kb.validB_iff hb.lt).2 ⟨by omega, by omega, hob⟩)
  have hmk := makeBools n hn
  unfold setV
  go_enter Tryd.func30, Tryd.ntmps30
  go_wp2_with fail
  have i1 := CaInv.new_ w (.int .i64 (n : Int)) (.slice A wa.length ca) (.int .i64 (n : Int)) (.slice B wb.length cb) 24
  refine (rvalid_any n A ca wa _ ((ha.below i1.bel).more i1.bel.size) (by omega)).mono ?_
  rintro e w1 ⟨rfl, hb1⟩
  have i2 := i1.below hb1
  clear i1 hb1
  rw [hva.out]
  have d10 := i2.t2.c0
  have d11 := i2.t2.c1
  go_wp2_with fail
  refine (rvalid_any n B cb wb _ ((hb.below i2.bel).more i2.bel.size) (by omega)).mono ?_
  rintro e w2 ⟨rfl, hb2⟩
  have i3 := i2.below hb2
  clear i2 hb2 d10 d11
  rw [hvb.out]
  have c10 := i3.t1.c0
  have c11 := i3.t1.c1
  have d10 := i3.t2.c0
  have d11 := i3.t2.c1
  have hX := (ha.below i3.bel).more i3.bel.size
  have hY := (hb.below i3.bel).more i3.bel.size
  have hz1 := i3.t1.lt
  have hz2 := i3.t2.lt
  go_upto_region 5 with fail
  go_cut [8, 9] (fun s8 s9 wx => ∃ A' c' B' c'', s8 = .slice A' n c' ∧ s9 = .slice B' n c'' ∧ CfInv w wx n (.int .i64 (n : Int)) (.slice A wa.length ca) (.int .i64 (n : Int)) (.slice B wb.length cb) A' B' (Kb.bitAt wa) (Kb.bitAt wb))
  case first =>
    have hXd : Words w2.drew w2.drew.heap.size A wa := hX.drewN 1
    have hYd : Words w2.drew w2.drew.heap.size B wb := hY.drewN 1
    have H1 := Lib.hid (flags_res n A ca wa w2.drew hXd hla hn)
    clear hXd hX ha hb hoa hob hva hvb
    go_region_with (first
      | (go_at_call 52; refine (flags_res n B cb wb _ ((hYd.below hbA).more hbA.size) hlb hn).mono ?_; rintro e w4 ⟨B', c'', rfl, rowB, hbB⟩)
      | (go_at_call 52; refine H1.out.mono ?_; rintro e w3 ⟨A', c', rfl, rowA, hbA⟩; have y10 := (hbA.cell (p := ⟨w.heap.size + 1, 0, none⟩) hz2).trans d10; have y11 := (hbA.cell (p := ⟨w.heap.size + 1, 1, none⟩) hz2).trans d11))
    all_goals
      go_wp2_with fail
      go_meet
      exact ⟨A', c', B', c'', rfl, rfl, (i3.drew.below hbA).below hbB, (rowA.below hbB).more hbB.size, rowB⟩
  case rest =>
    obtain ⟨A', c', B', c'', rfl, rfl, i4⟩ := hcut
    clear c10 c11 d10 d11 hX hY hz1 hz2
    have c10 := i4.ca.t1.c0
    have hz := i4.ca.t3.lt
    go_wp2_with fail
    go_loopw [11] (fun i wr => ∃ k : Nat, k ≤ n ∧ i = .int .i64 k ∧ CmInv w wr wc.heap.size n (.int .i64 (n : Int)) (.slice A wa.length ca) (.int .i64 (n : Int)) (.slice B wb.length cb) A' B' (Kb.bitAt wa) (Kb.bitAt wb) (fun j => decide (j < k) && (fun j => (fun p q => p || q) (Kb.bitAt wa j) (Kb.bitAt wb j)) j)) (fun i _ => n - (intOf i).toNat)
    case atStart =>
      refine ⟨0, Nat.zero_le _, rfl, ⟨⟨i4.ca.t1.alloc _, i4.ca.t2.alloc _, i4.ca.t3.alloc _, i4.ca.bel.alloc i4.ca.bel.size _⟩, i4.ra.alloc (Nat.le_refl _) _, i4.rb.alloc (Nat.le_refl _) _, ?_, hz⟩⟩
      rw [bcells_congr (g := fun _ => false) (fun j _ => by simp)]
      exact BBlk.new_ _ _
    case round =>
      obtain ⟨k, hk, rfl, hinv⟩ := hrel
      clear c10
      have c10 := hinv.ca.t1.c0
      by_cases hlt : k < n
      · obtain ⟨b, off, rfl, hbb, hc⟩ := bcell_at hinv.ra hlt
        obtain ⟨b', off', rfl, hbb', hc'⟩ := bcell_at hinv.rb hlt
        have hcg := hinv.row.cell (bcells_at _ hlt)
        have hfg := hinv.row.frozen k
        obtain ⟨p, hp⟩ : ∃ p, Hid (Kb.bitAt wa k = p) := ⟨_, Lib.hid rfl⟩
        obtain ⟨q, hq⟩ : ∃ q, Hid (Kb.bitAt wb k = q) := ⟨_, Lib.hid rfl⟩
        rw [hp.out] at hc
        rw [hq.out] at hc'
        have hi2 := hinv.set_ k ((fun p q => p || q) p q)
        have ef : (fun j => if j = k then (fun p q => p || q) p q else (decide (j < k) && (fun j => (fun p q => p || q) (Kb.bitAt wa j) (Kb.bitAt wb j)) j)) = (fun j => decide (j < k + 1) && (fun j => (fun p q => p || q) (Kb.bitAt wa j) (Kb.bitAt wb j)) j) := by
          funext j
          by_cases e : j = k
          · subst e; simp [hp.out, hq.out]
          · have : (j < k + 1) ↔ (j < k) := by omega
            simp [e, this]
        rw [ef] at hi2
        clear hinv ef
        cases p
        all_goals
          go_wp2_with fail
          go_roundw
          case rel => exact ⟨k + 1, by omega, by go_num, hi2⟩
          case measure => simp [intOf]; omega
      · obtain rfl : k = n := by omega
        go_wp2_with fail
        have hr := hinv.row.row (B := wr.heap.size) hinv.row.lt
        refine (make_ok k (some ⟨wc.heap.size, 0, none⟩) k _ _ hr hn).mono ?_
        rintro e w3 ⟨A3, c3, rfl, hW3, hb3⟩
        have i5 := hinv.ca.below hb3
        have e0 := i5.t3.c0
        have e1 := i5.t3.c1
        have f30 := i5.t3.fr 0
        have f31 := i5.t3.fr 1
        have em : Kb.mkWords k (fun j => decide (j < k) && (fun j => (fun p q => p || q) (Kb.bitAt wa j) (Kb.bitAt wb j)) j) = Kb.mkWords k (fun j => (fun p q => p || q) (Kb.bitAt wa j) (Kb.bitAt wb j)) := Kb.mkWords_congr fun j hj => by simp [hj]
        rw [em] at hW3 ⊢
        unfold setV
        go_wp2_with fail
        obtain ⟨r0, r1⟩ := two_set w3 (.int .i64 (k : Int)) (.slice A3 (Kb.mkWords k (fun j => (fun p q => p || q) (Kb.bitAt wa j) (Kb.bitAt wb j))).length c3) e0 e1
        refine bodyPost_ret (v := .tuple #[setV k A3 (Kb.mkWords k (fun j => (fun p q => p || q) (Kb.bitAt wa j) (Kb.bitAt wb j))).length c3, .int .i64 0]) (by simp [results, Tryd.results30, go_sem, r0, r1, setV]) rfl ?_
        exact ⟨A3, c3, rfl, (hW3.put_two i5.t3 _ _).more (by simp [World.setCell]), (i5.bel.setCell (p := ⟨w.heap.size + 2, 0, none⟩) (by simp) _).setCell (p := ⟨w.heap.size + 2, 1, none⟩) (by simp) _⟩

set_option maxRecDepth 100000 in
set_option maxHeartbeats 2000000 in
theorem rcombine1_ok (n : Nat) (A : Option Addr) (ca : Nat) (wa : List Nat) (B : Option Addr) (cb : Nat) (wb : List Nat) (w : World) (ha : Words w w.heap.size A wa) (hb : Words w w.heap.size B wb)
    (hoa : Kb.Ok n wa) (hob : Kb.Ok n wb) (hn : n ≤ 4096) :
    Calls Tryd.prog 30 #[.int .i64 1, setV n A wa.length ca, setV n B wb.length cb] w (SetRes n (Kb.mkWords n (fun j => (fun p q => p && q) (Kb.bitAt wa j) (Kb.bitAt wb j))) w) := by
  have hla : wa.length ≤ 64 := by rw [hoa.len]; unfold Kb.nw; omega
  have hlb : wb.length ≤ 64 := by rw [hob.len]; unfold Kb.nw; omega
  have hva : Hid (Kb.validB n wa = true) := Lib.hid ((Kb.validB_iff ha.lt).2 ⟨by omega, by omega, hoa⟩)
  have hvb : Hid (Kb.validB n wb = true) := Lib.hid ((Kb.validB_iff hb.lt).2 ⟨by omega, by omega, hob⟩)
  have hmk := makeBools n hn
  unfold setV
  go_enter Tryd.func30, Tryd.ntmps30
  go_wp2_with fail
  have i1 := CaInv.new_ w (.int .i64 (n : Int)) (.slice A wa.length ca) (.int .i64 (n : Int)) (.slice B wb.length cb) 24
  refine (rvalid_any n A ca wa _ ((ha.below i1.bel).more i1.bel.size) (by omega)).mono ?_
  rintro e w1 ⟨rfl, hb1⟩
  have i2 := i1.below hb1
  clear i1 hb1
  rw [hva.out]
  have d10 := i2.t2.c0
  have d11 := i2.t2.c1
  go_wp2_with fail
  refine (rvalid_any n B cb wb _ ((hb.below i2.bel).more i2.bel.size) (by omega)).mono ?_
  rintro e w2 ⟨rfl, hb2⟩
  have i3 := i2.below hb2
  clear i2 hb2 d10 d11
  rw [hvb.out]
  have c10 := i3.t1.c0
  have c11 := i3.t1.c1
  have d10 := i3.t2.c0
  have d11 := i3.t2.c1
  have hX := (ha.below i3.bel).more i3.bel.size
  have hY := (hb.below i3.bel).more i3.bel.size
  have hz1 := i3.t1.lt
  have hz2 := i3.t2.lt
  go_upto_region 5 with fail
  go_cut [8, 9] (fun s8 s9 wx => ∃ A' c' B' c'', s8 = .slice A' n c' ∧ s9 = .slice B' n c'' ∧ CfInv w wx n (.int .i64 (n : Int)) (.slice A wa.length ca) (.int .i64 (n : Int)) (.slice B wb.length cb) A' B' (Kb.bitAt wa) (Kb.bitAt wb))
  case first =>
    have hXd : Words w2.drew w2.drew.heap.size A wa := hX.drewN 1
    have hYd : Words w2.drew w2.drew.heap.size B wb := hY.drewN 1
    have H1 := Lib.hid (flags_res n A ca wa w2.drew hXd hla hn)
    clear hXd hX ha hb hoa hob hva hvb
    go_region_with (first
      | (go_at_call 52; refine (flags_res n B cb wb _ ((hYd.below hbA).more hbA.size) hlb hn).mono ?_; rintro e w4 ⟨B', c'', rfl, rowB, hbB⟩)
      | (go_at_call 52; refine H1.out.mono ?_; rintro e w3 ⟨A', c', rfl, rowA, hbA⟩; have y10 := (hbA.cell (p := ⟨w.heap.size + 1, 0, none⟩) hz2).trans d10; have y11 := (hbA.cell (p := ⟨w.heap.size + 1, 1, none⟩) hz2).trans d11))
    all_goals
      go_wp2_with fail
      go_meet
      exact ⟨A', c', B', c'', rfl, rfl, (i3.drew.below hbA).below hbB, (rowA.below hbB).more hbB.size, rowB⟩
  case rest =>
    obtain ⟨A', c', B', c'', rfl, rfl, i4⟩ := hcut
    clear c10 c11 d10 d11 hX hY hz1 hz2
    have c10 := i4.ca.t1.c0
    have hz := i4.ca.t3.lt
    go_wp2_with fail
    go_loopw [11] (fun i wr => ∃ k : Nat, k ≤ n ∧ i = .int .i64 k ∧ CmInv w wr wc.heap.size n (.int .i64 (n : Int)) (.slice A wa.length ca) (.int .i64 (n : Int)) (.slice B wb.length cb) A' B' (Kb.bitAt wa) (Kb.bitAt wb) (fun j => decide (j < k) && (fun j => (fun p q => p && q) (Kb.bitAt wa j) (Kb.bitAt wb j)) j)) (fun i _ => n - (intOf i).toNat)
    case atStart =>
      refine ⟨0, Nat.zero_le _, rfl, ⟨⟨i4.ca.t1.alloc _, i4.ca.t2.alloc _, i4.ca.t3.alloc _, i4.ca.bel.alloc i4.ca.bel.size _⟩, i4.ra.alloc (Nat.le_refl _) _, i4.rb.alloc (Nat.le_refl _) _, ?_, hz⟩⟩
      rw [bcells_congr (g := fun _ => false) (fun j _ => by simp)]
      exact BBlk.new_ _ _
    case round =>
      obtain ⟨k, hk, rfl, hinv⟩ := hrel
      clear c10
      have c10 := hinv.ca.t1.c0
      by_cases hlt : k < n
      · obtain ⟨b, off, rfl, hbb, hc⟩ := bcell_at hinv.ra hlt
        obtain ⟨b', off', rfl, hbb', hc'⟩ := bcell_at hinv.rb hlt
        have hcg := hinv.row.cell (bcells_at _ hlt)
        have hfg := hinv.row.frozen k
        obtain ⟨p, hp⟩ : ∃ p, Hid (Kb.bitAt wa k = p) := ⟨_, Lib.hid rfl⟩
        obtain ⟨q, hq⟩ : ∃ q, Hid (Kb.bitAt wb k = q) := ⟨_, Lib.hid rfl⟩
        rw [hp.out] at hc
        rw [hq.out] at hc'
        have hi2 := hinv.set_ k ((fun p q => p && q) p q)
        have ef : (fun j => if j = k then (fun p q => p && q) p q else (decide (j < k) && (fun j => (fun p q => p && q) (Kb.bitAt wa j) (Kb.bitAt wb j)) j)) = (fun j => decide (j < k + 1) && (fun j => (fun p q => p && q) (Kb.bitAt wa j) (Kb.bitAt wb j)) j) := by
          funext j
          by_cases e : j = k
          · subst e; simp [hp.out, hq.out]
          · have : (j < k + 1) ↔ (j < k) := by omega
            simp [e, this]
        rw [ef] at hi2
        clear hinv ef
        cases p
        all_goals
          go_wp2_with fail
          go_roundw
          case rel => exact ⟨k + 1, by omega, by go_num, hi2⟩
          case measure => simp [intOf]; omega
      · obtain rfl : k = n := by omega
        go_wp2_with fail
        have hr := hinv.row.row (B := wr.heap.size) hinv.row.lt
        refine (make_ok k (some ⟨wc.heap.size, 0, none⟩) k _ _ hr hn).mono ?_
        rintro e w3 ⟨A3, c3, rfl, hW3, hb3⟩
        have i5 := hinv.ca.below hb3
        have e0 := i5.t3.c0
        have e1 := i5.t3.c1
        have f30 := i5.t3.fr 0
        have f31 := i5.t3.fr 1
        have em : Kb.mkWords k (fun j => decide (j < k) && (fun j => (fun p q => p && q) (Kb.bitAt wa j) (Kb.bitAt wb j)) j) = Kb.mkWords k (fun j => (fun p q => p && q) (Kb.bitAt wa j) (Kb.bitAt wb j)) := Kb.mkWords_congr fun j hj => by simp [hj]
        rw [em] at hW3 ⊢
        unfold setV
        go_wp2_with fail
        obtain ⟨r0, r1⟩ := two_set w3 (.int .i64 (k : Int)) (.slice A3 (Kb.mkWords k (fun j => (fun p q => p && q) (Kb.bitAt wa j) (Kb.bitAt wb j))).length c3) e0 e1
        refine bodyPost_ret (v := .tuple #[setV k A3 (Kb.mkWords k (fun j => (fun p q => p && q) (Kb.bitAt wa j) (Kb.bitAt wb j))).length c3, .int .i64 0]) (by simp [results, Tryd.results30, go_sem, r0, r1, setV]) rfl ?_
        exact ⟨A3, c3, rfl, (hW3.put_two i5.t3 _ _).more (by simp [World.setCell]), (i5.bel.setCell (p := ⟨w.heap.size + 2, 0, none⟩) (by simp) _).setCell (p := ⟨w.heap.size + 2, 1, none⟩) (by simp) _⟩

set_option maxRecDepth 100000 in
set_option maxHeartbeats 2000000 in
theorem rcombine2_ok (n : Nat) (A : Option Addr) (ca : Nat) (wa : List Nat) (B : Option Addr) (cb : Nat) (wb : List Nat) (w : World) (ha : Words w w.heap.size A wa) (hb : Words w w.heap.size B wb)
    (hoa : Kb.Ok n wa) (hob : Kb.Ok n wb) (hn : n ≤ 4096) :
    Calls Tryd.prog 30 #[.int .i64 2, setV n A wa.length ca, setV n B wb.length cb] w (SetRes n (Kb.mkWords n (fun j => (fun p q => p && !q) (Kb.bitAt wa j) (Kb.bitAt wb j))) w) := by
  have hla : wa.length ≤ 64 := by rw [hoa.len]; unfold Kb.nw; omega
  have hlb : wb.length ≤ 64 := by rw [hob.len]; unfold Kb.nw; omega
  have hva : Hid (Kb.validB n wa = true) := Lib.hid ((Kb.validB_iff ha.lt).2 ⟨by omega, by omega, hoa⟩)
  have hvb : Hid (Kb.validB n wb = true) := Lib.hid ((Kb.validB_iff hb.lt).2 ⟨by omega, by omega, hob⟩)
  have hmk := makeBools n hn
  unfold setV
  go_enter Tryd.func30, Tryd.ntmps30
  go_wp2_with fail
  have i1 := CaInv.new_ w (.int .i64 (n : Int)) (.slice A wa.length ca) (.int .i64 (n : Int)) (.slice B wb.length cb) 24
  refine (rvalid_any n A ca wa _ ((ha.below i1.bel).more i1.bel.size) (by omega)).mono ?_
  rintro e w1 ⟨rfl, hb1⟩
  have i2 := i1.below hb1
  clear i1 hb1
  rw [hva.out]
  have d10 := i2.t2.c0
  have d11 := i2.t2.c1
  go_wp2_with fail
  refine (rvalid_any n B cb wb _ ((hb.below i2.bel).more i2.bel.size) (by omega)).mono ?_
  rintro e w2 ⟨rfl, hb2⟩
  have i3 := i2.below hb2
  clear i2 hb2 d10 d11
  rw [hvb.out]
  have c10 := i3.t1.c0
  have c11 := i3.t1.c1
  have d10 := i3.t2.c0
  have d11 := i3.t2.c1
  have hX := (ha.below i3.bel).more i3.bel.size
  have hY := (hb.below i3.bel).more i3.bel.size
  have hz1 := i3.t1.lt
  have hz2 := i3.t2.lt
  go_upto_region 5 with fail
  go_cut [8, 9] (fun s8 s9 wx => ∃ A' c' B' c'', s8 = .slice A' n c' ∧ s9 = .slice B' n c'' ∧ CfInv w wx n (.int .i64 (n : Int)) (.slice A wa.length ca) (.int .i64 (n : Int)) (.slice B wb.length cb) A' B' (Kb.bitAt wa) (Kb.bitAt wb))
  case first =>
    have hXd : Words w2.drew w2.drew.heap.size A wa := hX.drewN 1
    have hYd : Words w2.drew w2.drew.heap.size B wb := hY.drewN 1
    have H1 := Lib.hid (flags_res n A ca wa w2.drew hXd hla hn)
    clear hXd hX ha hb hoa hob hva hvb
    go_region_with (first
      | (go_at_call 52; refine (flags_res n B cb wb _ ((hYd.below hbA).more hbA.size) hlb hn).mono ?_; rintro e w4 ⟨B', c'', rfl, rowB, hbB⟩)
      | (go_at_call 52; refine H1.out.mono ?_; rintro e w3 ⟨A', c', rfl, rowA, hbA⟩; have y10 := (hbA.cell (p := ⟨w.heap.size + 1, 0, none⟩) hz2).trans d10; have y11 := (hbA.cell (p := ⟨w.heap.size + 1, 1, none⟩) hz2).trans d11))
    all_goals
      go_wp2_with fail
      go_meet
      exact ⟨A', c', B', c'', rfl, rfl, (i3.drew.below hbA).below hbB, (rowA.below hbB).more hbB.size, rowB⟩
  case rest =>
    obtain ⟨A', c', B', c'', rfl, rfl, i4⟩ := hcut
    clear c10 c11 d10 d11 hX hY hz1 hz2
    have c10 := i4.ca.t1.c0
    have hz := i4.ca.t3.lt
    go_wp2_with fail
    go_loopw [11] (fun i wr => ∃ k : Nat, k ≤ n ∧ i = .int .i64 k ∧ CmInv w wr wc.heap.size n (.int .i64 (n : Int)) (.slice A wa.length ca) (.int .i64 (n : Int)) (.slice B wb.length cb) A' B' (Kb.bitAt wa) (Kb.bitAt wb) (fun j => decide (j < k) && (fun j => (fun p q => p && !q) (Kb.bitAt wa j) (Kb.bitAt wb j)) j)) (fun i _ => n - (intOf i).toNat)
    case atStart =>
      refine ⟨0, Nat.zero_le _, rfl, ⟨⟨i4.ca.t1.alloc _, i4.ca.t2.alloc _, i4.ca.t3.alloc _, i4.ca.bel.alloc i4.ca.bel.size _⟩, i4.ra.alloc (Nat.le_refl _) _, i4.rb.alloc (Nat.le_refl _) _, ?_, hz⟩⟩
      rw [bcells_congr (g := fun _ => false) (fun j _ => by simp)]
      exact BBlk.new_ _ _
    case round =>
      obtain ⟨k, hk, rfl, hinv⟩ := hrel
      clear c10
      have c10 := hinv.ca.t1.c0
      by_cases hlt : k < n
      · obtain ⟨b, off, rfl, hbb, hc⟩ := bcell_at hinv.ra hlt
        obtain ⟨b', off', rfl, hbb', hc'⟩ := bcell_at hinv.rb hlt
        have hcg := hinv.row.cell (bcells_at _ hlt)
        have hfg := hinv.row.frozen k
        obtain ⟨p, hp⟩ : ∃ p, Hid (Kb.bitAt wa k = p) := ⟨_, Lib.hid rfl⟩
        obtain ⟨q, hq⟩ : ∃ q, Hid (Kb.bitAt wb k = q) := ⟨_, Lib.hid rfl⟩
        rw [hp.out] at hc
        rw [hq.out] at hc'
        have hi2 := hinv.set_ k ((fun p q => p && !q) p q)
        have ef : (fun j => if j = k then (fun p q => p && !q) p q else (decide (j < k) && (fun j => (fun p q => p && !q) (Kb.bitAt wa j) (Kb.bitAt wb j)) j)) = (fun j => decide (j < k + 1) && (fun j => (fun p q => p && !q) (Kb.bitAt wa j) (Kb.bitAt wb j)) j) := by
          funext j
          by_cases e : j = k
          · subst e; simp [hp.out, hq.out]
          · have : (j < k + 1) ↔ (j < k) := by omega
            simp [e, this]
        rw [ef] at hi2
        clear hinv ef
        cases p
        all_goals
          go_wp2_with fail
          go_roundw
          case rel => exact ⟨k + 1, by omega, by go_num, hi2⟩
          case measure => simp [intOf]; omega
      · obtain rfl : k = n := by omega
        go_wp2_with fail
        have hr := hinv.row.row (B := wr.heap.size) hinv.row.lt
        refine (make_ok k (some ⟨wc.heap.size, 0, none⟩) k _ _ hr hn).mono ?_
        rintro e w3 ⟨A3, c3, rfl, hW3, hb3⟩
        have i5 := hinv.ca.below hb3
        have e0 := i5.t3.c0
        have e1 := i5.t3.c1
        have f30 := i5.t3.fr 0
        have f31 := i5.t3.fr 1
        have em : Kb.mkWords k (fun j => decide (j < k) && (fun j => (fun p q => p && !q) (Kb.bitAt wa j) (Kb.bitAt wb j)) j) = Kb.mkWords k (fun j => (fun p q => p && !q) (Kb.bitAt wa j) (Kb.bitAt wb j)) := Kb.mkWords_congr fun j hj => by simp [hj]
        rw [em] at hW3 ⊢
        unfold setV
        go_wp2_with fail
        obtain ⟨r0, r1⟩ := two_set w3 (.int .i64 (k : Int)) (.slice A3 (Kb.mkWords k (fun j => (fun p q => p && !q) (Kb.bitAt wa j) (Kb.bitAt wb j))).length c3) e0 e1
        refine bodyPost_ret (v := .tuple #[setV k A3 (Kb.mkWords k (fun j => (fun p q => p && !q) (Kb.bitAt wa j) (Kb.bitAt wb j))).length c3, .int .i64 0]) (by simp [results, Tryd.results30, go_sem, r0, r1, setV]) rfl ?_
        exact ⟨A3, c3, rfl, (hW3.put_two i5.t3 _ _).more (by simp [World.setCell]), (i5.bel.setCell (p := ⟨w.heap.size + 2, 0, none⟩) (by simp) _).setCell (p := ⟨w.heap.size + 2, 1, none⟩) (by simp) _⟩
end Go.Proofs.YtcfgeggfcnkckaaDoor
