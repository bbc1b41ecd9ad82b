/- Walks: Of and the reference's Of: members out of range. -/
import Derived.Test.YtckenemkfegopaaDoorWn
namespace Go.Proofs.YtckenemkfegopaaDoor
open Go.RowKit
set_option linter.unusedVariables false

theorem inB_snoc {n k : Nat} {zs : List Int} (hk : k < zs.length) (h : inB n (zs.take k) = true) (h0 : 0 ≤ zs.getD k 0) (h1 : zs.getD k 0 < (n : Int)) : inB n (zs.take (k + 1)) = true := by
  have e : zs.take (k + 1) = zs.take k ++ [zs.getD k 0] := by
    rw [List.take_succ_eq_append_getElem hk, List.getD_eq_getElem?_getD, List.getElem?_eq_getElem hk]; rfl
  rw [e]
  unfold inB at h ⊢
  rw [List.all_append, h]
  simp only [List.all_cons, List.all_nil, Bool.and_true, Bool.true_and, Bool.and_eq_true, decide_eq_true_eq]
  exact ⟨h0, h1⟩

set_option maxRecDepth 100000 in
set_option maxHeartbeats 400000 in
theorem of_bad (n : Nat) (hn : n ≤ 4096) (A : Option Addr) (c : Nat) (zs : List Int) (w : World) (h : Ints w w.heap.size A zs) (hl : zs.length ≤ 17592186043904) (hin : inB n zs = false) :
    Calls Tryd.prog 88 #[.int .i64 (n : Int), .slice A zs.length c] w (ErrRes 3 w) := by
  go_enter Tryd.func88, Tryd.ntmps88
  go_wp2_with fail
  refine (new_ok n hn _).mono ?_
  rintro e w1 ⟨g, hg, rfl, hblk, hbel⟩
  have hc0 := hbel.cell (p := ⟨w.heap.size, 0, none⟩) (by simp)
  have hc1 := hbel.cell (p := ⟨w.heap.size, 1, none⟩) (by simp)
  have hf0 := hbel.frozen (p := ⟨w.heap.size, 0, none⟩) (by simp)
  have hf1 := hbel.frozen (p := ⟨w.heap.size, 1, none⟩) (by simp)
  have hz : w.heap.size < w1.heap.size := by have := hbel.size; simp at this; omega
  unfold setV
  go_wp2_with fail
  have hB : Below w.heap.size w (w1.alloc (.cells #[.int .i64 (n : Int), .slice (some ⟨g, 0, none⟩) (Kb.nw n) (Kb.nw n)] 46)) :=
    ((((Below.refl _ _).alloc (Nat.le_refl _) _).trans (hbel.mono (by simp))).alloc (by omega) _)
  have hg1 : g < w1.heap.size := hblk.lt
  have hgl : w.heap.size < g := by simp at hg; omega
  simp only [World.cell?_alloc_new, World.frozen?_alloc_new] at hc0 hc1 hf0 hf1
  go_loopw [21] (fun i wr => ∃ k : Nat, k ≤ zs.length ∧ i = .int .i64 k ∧ Hid (inB n (zs.take k) = true) ∧ OfInv w wr w1.heap.size g n (Kb.nw n) (Kb.mkWords n (memB (zs.take k)))) (fun i _ => zs.length - (intOf i).toNat)
  case atStart =>
    refine ⟨0, Nat.zero_le _, rfl, Lib.hid (by rw [List.take_zero]; rfl), ⟨?_, ?_, ?_, ?_, ?_, ?_, ?_, hgl, hB⟩⟩
    · rintro v rfl; rw [World.cell?_alloc_lt _ _ _ hz]; exact hc0
    · rintro v rfl; rw [World.cell?_alloc_lt _ _ _ hz]; exact hc1
    · intro k; rw [World.frozen?_alloc_past _ _ _ hz]; exact (hbel.frozen (p := ⟨w.heap.size, k, none⟩) (by simp)).trans (World.frozen?_alloc_new _ _ _ _)
    · exact World.cell?_alloc_new _ _ _ _
    · exact World.cell?_alloc_new _ _ _ _
    · have e : Kb.mkWords n (memB (zs.take 0)) = List.replicate (Kb.nw n) 0 := by
        rw [List.take_zero]
        exact zeros_mk n _ (fun j => rfl)
      rw [e]; exact hblk.alloc _
    · omega
  case round =>
    obtain ⟨k, hk, rfl, hpre, hinv⟩ := hrel
    by_cases hlt : k < zs.length
    · obtain ⟨b, off, z, rfl, hb, hc, hx⟩ := (h.below hinv.bel).at_ hlt
      by_cases hneg : z < 0
      · clear hk
        have c4 := hinv.c4 _ rfl
        have c4' := hinv.c4' _ rfl
        have f40 := hinv.f4 0
        have f41 := hinv.f4 1
        go_wp2_with fail
        obtain ⟨r0, r1⟩ := two_set wr (.int .i64 0) (.slice none 0 0) c4 c4'
        refine bodyPost_ret (v := .tuple #[setV 0 none 0 0, .int .i64 3]) (by simp [results, Tryd.results88, go_sem, r0, r1, setV]) rfl ?_
        exact ⟨rfl, (hinv.bel.setCell (p := ⟨w.heap.size, 0, none⟩) (Nat.le_refl _) _).setCell (p := ⟨w.heap.size, 1, none⟩) (Nat.le_refl _) _⟩
      by_cases hbig : (n : Int) ≤ z
      · clear hk
        have c4 := hinv.c4 _ rfl
        have c4' := hinv.c4' _ rfl
        have f40 := hinv.f4 0
        have f41 := hinv.f4 1
        go_wp2_with fail
        obtain ⟨r0, r1⟩ := two_set wr (.int .i64 0) (.slice none 0 0) c4 c4'
        refine bodyPost_ret (v := .tuple #[setV 0 none 0 0, .int .i64 3]) (by simp [results, Tryd.results88, go_sem, r0, r1, setV]) rfl ?_
        exact ⟨rfl, (hinv.bel.setCell (p := ⟨w.heap.size, 0, none⟩) (Nat.le_refl _) _).setCell (p := ⟨w.heap.size, 1, none⟩) (Nat.le_refl _) _⟩
      have hzr : 0 ≤ z ∧ z < (n : Int) := by omega
      clear hneg hbig
      obtain ⟨j, rfl⟩ := Int.eq_ofNat_of_zero_le hzr.1
      have hjn : j < n := by omega
      have hj2 : j / 64 < Kb.nw n := by unfold Kb.nw; omega
      have hcx := hinv.row.cell (k := j / 64) (by rw [Kb.mkWords_length]; exact hj2)
      have hfx := hinv.row.frozen (j / 64)
      obtain ⟨x, hX⟩ : ∃ x : Nat, Hid (x = (Kb.mkWords n (memB (zs.take k))).getD (j / 64) 0) := ⟨_, Lib.hid rfl⟩
      rw [← hX.out] at hcx
      have c6 := hinv.c6
      have c6' := hinv.c6'
      have e1 : IntKind.i64.wrap ((j : Int) / 64) = (j : Int) / 64 := IntWalk.i64_in _ (by omega)
      have e2 : ((j : Int)).tmod 64 = (j : Int) % 64 := Int.tmod_eq_emod_of_nonneg (by omega)
      have e3 : ((j : Int) / 64).toNat = j / 64 := by omega
      have e4 : (j : Int) / 64 < ((Kb.nw n : Nat) : Int) := by omega
      have e5 : (0 : Int) ≤ (j : Int) / 64 := by omega
      go_wp2_with fail
      go_region
      rw [or_pow x (j % 64) (by rw [hX.out]; exact (Kb.Ok.mk_ n _).get_lt _) (Nat.mod_lt _ (by decide))]
      go_wp2_with fail
      go_roundw
      case rel =>
        have hst : Kb.mkWords n (memB (zs.take (k + 1))) = (Kb.mkWords n (memB (zs.take k))).set (j / 64) (x ||| 2 ^ (j % 64)) := by
          rw [hX.out, Kb.set_or (Kb.Ok.mk_ n _) j hjn]
          refine Kb.mkWords_congr fun i hi => ?_
          rw [memB_snoc zs k hlt, Kb.bitAt_mkWords, ← hx.out.1]
          simp only [hi, decide_true, Bool.true_and]
          rw [Bool.or_comm]
          congr 1
          rw [Bool.eq_iff_iff, beq_iff_eq, beq_iff_eq]
          omega
        refine ⟨k + 1, by omega, by go_num, Lib.hid (inB_snoc hlt hpre.out (by rw [← hx.out.1]; omega) (by rw [← hx.out.1]; omega)), ⟨?_, ?_, ?_, ?_, ?_, ?_, hinv.b6g, hinv.hg, ?_⟩⟩
        · intro v hv; exact (World.cell?_setCell_other' wr _ _ _ (by have := hinv.hg; omega)).trans (hinv.c4 v hv)
        · intro v hv; exact (World.cell?_setCell_other' wr _ _ _ (by have := hinv.hg; omega)).trans (hinv.c4' v hv)
        · intro i; exact (frozen_set wr _ _ _).trans (hinv.f4 i)
        · exact (World.cell?_setCell_other' wr _ _ _ hinv.b6g).trans hinv.c6
        · exact (World.cell?_setCell_other' wr _ _ _ hinv.b6g).trans hinv.c6'
        · rw [hst]; exact (hinv.row.set_ _ _).drew
        · exact (hinv.bel.setCell (p := ⟨g, j / 64, none⟩) (Nat.le_of_lt hinv.hg) _).drew
      case measure => simp [intOf]; omega
    · exfalso
      have : zs.take k = zs := List.take_of_length_le (by omega)
      rw [this, hin] at hpre
      exact Bool.noConfusion hpre.out
end Go.Proofs.YtckenemkfegopaaDoor
