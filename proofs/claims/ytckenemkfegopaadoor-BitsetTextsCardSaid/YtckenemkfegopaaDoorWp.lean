/- Walks: the reference's Of. -/
import Derived.Test.YtckenemkfegopaaDoorWo
namespace Go.Proofs.YtckenemkfegopaaDoor
open Go.RowKit
set_option linter.unusedVariables false

set_option maxRecDepth 100000 in
set_option maxHeartbeats 1000000 in
theorem rof_ok (n : Nat) (hn : n ≤ 4096) (A : Option Addr) (c : Nat) (zs : List Int) (w : World) (h : Ints w w.heap.size A zs) (hl : zs.length ≤ 17592186043904) (hin : inB n zs = true) :
    Calls Tryd.prog 102 #[.int .i64 (n : Int), .slice A zs.length c] w (SetRes n (Kb.mkWords n (memB zs)) w) := by
  have q1 : ¬ (n : Int) < 0 := by omega
  have q2 : ¬ (4096 : Int) < (n : Int) := by omega
  have hmk := makeBools n hn
  go_enter Tryd.func102, Tryd.ntmps102
  go_wp2_with fail
  go_loopw [7] (fun i wr => ∃ k : Nat, k ≤ zs.length ∧ i = .int .i64 k ∧ Hid (inB n (zs.take k) = true) ∧ AlInv w wr (w.heap.size + 1) n (memB (zs.take k))) (fun i _ => zs.length - (intOf i).toNat)
  case atStart =>
    refine ⟨0, Nat.zero_le _, rfl, Lib.hid (by rw [List.take_zero]; rfl), ⟨(Two.new_ _ _ _ _).alloc _, ?_, by omega, (by repeat (first | exact Below.refl _ _ | refine bDrew ?_ _ | refine Below.drew ?_ | refine Below.alloc ?_ (by simp) _ | refine Below.setCell ?_ (by simp) _))⟩⟩
    have h0 := BBlk.new_ (w.alloc (.cells #[.int .i64 0, .slice none 0 0] 46)) (bcells (fun _ => false) n)
    rw [List.take_zero, bcells_congr (f := memB []) (g := fun _ => false) (fun j _ => rfl)]
    simpa using h0
  case round =>
    obtain ⟨k, hk, rfl, hpre, hinv⟩ := hrel
    by_cases hlt : k < zs.length
    · obtain ⟨b, off, z, rfl, hb, hc, hx⟩ := (h.below hinv.bel).at_ hlt
      have hzr : 0 ≤ z ∧ z < (n : Int) := by
        have h1 := List.all_eq_true.1 hin z (by rw [hx.out.1, List.getD_eq_getElem?_getD, List.getElem?_eq_getElem hlt]; exact List.getElem_mem hlt)
        simpa using h1
      obtain ⟨j, rfl⟩ := Int.eq_ofNat_of_zero_le hzr.1
      have hjn : j < n := by omega
      have hcg := hinv.row.cell (bcells_at _ hjn)
      have hfg := hinv.row.frozen j
      have z1 : ¬ (j : Int) < 0 := by omega
      have z2 : ¬ (n : Int) ≤ (j : Int) := by omega
      go_wp2_with fail
      go_roundw
      case rel =>
        refine ⟨k + 1, by omega, by go_num, Lib.hid (inB_snoc hlt hpre.out (by rw [← hx.out.1]; omega) (by rw [← hx.out.1]; omega)), ⟨hinv.t.far (by simp; try omega) _, ?_, hinv.hg, hinv.bel.setCell (by simp; try omega) _⟩⟩
        have h1 := hinv.row.set_ j (.bool true)
        rw [bcells_set, bcells_congr (g := memB (zs.take (k + 1))) (fun i _ => by
          rw [memB_snoc zs k hlt, ← hx.out.1]
          by_cases e : i = j
          · subst e; simp
          · have e' : ((j : Int) == (i : Int)) = false := by simp; omega
            rw [e', if_neg e, Bool.or_false])] at h1
        exact h1
      case measure => simp [intOf]; omega
    · have e : k = zs.length := by omega
      go_wp2_with fail
      have hr := hinv.row.row (B := wr.heap.size) hinv.row.lt
      refine (make_ok n (some ⟨w.heap.size + 1, 0, none⟩) n (memB (zs.take k)) _ hr hn).mono ?_
      rintro e3 w3 ⟨A3, c3, rfl, hW3, hb3⟩
      have t := hinv.t.below hb3 hinv.t.lt
      have d10 := t.c0
      have d11 := t.c1
      have f10 := t.fr 0
      have f11 := t.fr 1
      rw [e, List.take_length] at hW3 ⊢
      unfold setV
      go_wp2_with fail
      obtain ⟨r0, r1⟩ := two_set w3 (.int .i64 (n : Int)) (.slice A3 (Kb.mkWords n (memB zs)).length c3) d10 d11
      refine bodyPost_ret (v := .tuple #[setV n A3 (Kb.mkWords n (memB zs)).length c3, .int .i64 0]) (by simp [results, Tryd.results102, go_sem, r0, r1, setV]) rfl ?_
      exact ⟨A3, c3, rfl, (hW3.put_two t _ _).more (by simp [World.setCell]), ((hinv.bel.trans (hb3.mono hinv.bel.size)).setCell (p := ⟨w.heap.size, 0, none⟩) (by simp) _).setCell (p := ⟨w.heap.size, 1, none⟩) (by simp) _⟩

set_option maxRecDepth 100000 in
set_option maxHeartbeats 1000000 in
theorem rof_bad (n : Nat) (hn : n ≤ 4096) (A : Option Addr) (c : Nat) (zs : List Int) (w : World) (h : Ints w w.heap.size A zs) (hl : zs.length ≤ 17592186043904) (hin : inB n zs = false) :
    Calls Tryd.prog 102 #[.int .i64 (n : Int), .slice A zs.length c] w (ErrRes 3 w) := by
  have q1 : ¬ (n : Int) < 0 := by omega
  have q2 : ¬ (4096 : Int) < (n : Int) := by omega
  have hmk := makeBools n hn
  go_enter Tryd.func102, Tryd.ntmps102
  go_wp2_with fail
  go_loopw [7] (fun i wr => ∃ k : Nat, k ≤ zs.length ∧ i = .int .i64 k ∧ Hid (inB n (zs.take k) = true) ∧ AlInv w wr (w.heap.size + 1) n (memB (zs.take k))) (fun i _ => zs.length - (intOf i).toNat)
  case atStart =>
    refine ⟨0, Nat.zero_le _, rfl, Lib.hid (by rw [List.take_zero]; rfl), ⟨(Two.new_ _ _ _ _).alloc _, ?_, by omega, (by repeat (first | exact Below.refl _ _ | refine bDrew ?_ _ | refine Below.drew ?_ | refine Below.alloc ?_ (by simp) _ | refine Below.setCell ?_ (by simp) _))⟩⟩
    have h0 := BBlk.new_ (w.alloc (.cells #[.int .i64 0, .slice none 0 0] 46)) (bcells (fun _ => false) n)
    rw [List.take_zero, bcells_congr (f := memB []) (g := fun _ => false) (fun j _ => rfl)]
    simpa using h0
  case round =>
    obtain ⟨k, hk, rfl, hpre, hinv⟩ := hrel
    by_cases hlt : k < zs.length
    · obtain ⟨b, off, z, rfl, hb, hc, hx⟩ := (h.below hinv.bel).at_ hlt
      by_cases hneg : z < 0
      · clear hk
        have d10 := hinv.t.c0
        have d11 := hinv.t.c1
        have f10 := hinv.t.fr 0
        have f11 := hinv.t.fr 1
        go_wp2_with fail
        obtain ⟨r0, r1⟩ := two_set wr (.int .i64 0) (.slice none 0 0) d10 d11
        refine bodyPost_ret (v := .tuple #[setV 0 none 0 0, .int .i64 3]) (by simp [results, Tryd.results102, go_sem, r0, r1, setV]) rfl ?_
        exact ⟨rfl, (hinv.bel.setCell (p := ⟨w.heap.size, 0, none⟩) (Nat.le_refl _) _).setCell (p := ⟨w.heap.size, 1, none⟩) (Nat.le_refl _) _⟩
      by_cases hbig : (n : Int) ≤ z
      · clear hk
        have d10 := hinv.t.c0
        have d11 := hinv.t.c1
        have f10 := hinv.t.fr 0
        have f11 := hinv.t.fr 1
        go_wp2_with fail
        obtain ⟨r0, r1⟩ := two_set wr (.int .i64 0) (.slice none 0 0) d10 d11
        refine bodyPost_ret (v := .tuple #[setV 0 none 0 0, .int .i64 3]) (by simp [results, Tryd.results102, go_sem, r0, r1, setV]) rfl ?_
        exact ⟨rfl, (hinv.bel.setCell (p := ⟨w.heap.size, 0, none⟩) (Nat.le_refl _) _).setCell (p := ⟨w.heap.size, 1, none⟩) (Nat.le_refl _) _⟩
      have hzr : 0 ≤ z ∧ z < (n : Int) := by omega
      clear hneg hbig
      obtain ⟨j, rfl⟩ := Int.eq_ofNat_of_zero_le hzr.1
      have hjn : j < n := by omega
      have hcg := hinv.row.cell (bcells_at _ hjn)
      have hfg := hinv.row.frozen j
      have z1 : ¬ (j : Int) < 0 := by omega
      have z2 : ¬ (n : Int) ≤ (j : Int) := by omega
      go_wp2_with fail
      go_roundw
      case rel =>
        refine ⟨k + 1, by omega, by go_num, Lib.hid (inB_snoc hlt hpre.out (by rw [← hx.out.1]; omega) (by rw [← hx.out.1]; omega)), ⟨hinv.t.far (by simp; try omega) _, ?_, hinv.hg, hinv.bel.setCell (by simp; try omega) _⟩⟩
        have h1 := hinv.row.set_ j (.bool true)
        rw [bcells_set, bcells_congr (g := memB (zs.take (k + 1))) (fun i _ => by
          rw [memB_snoc zs k hlt, ← hx.out.1]
          by_cases e : i = j
          · subst e; simp
          · have e' : ((j : Int) == (i : Int)) = false := by simp; omega
            rw [e', if_neg e, Bool.or_false])] at h1
        exact h1
      case measure => simp [intOf]; omega
    · exfalso
      have : zs.take k = zs := List.take_of_length_le (by omega)
      rw [this, hin] at hpre
      exact Bool.noConfusion hpre.out
end Go.Proofs.YtckenemkfegopaaDoor
