/- Walks: Of. -/
import Derived.Test.YtckenemkfegopaaDoorW4
import Derived.RegionTactic
import Derived.ChangeAlike
namespace Go.Proofs.YtckenemkfegopaaDoor
open Go.RowKit
set_option linter.unusedVariables false

/-- is j among the numbers? -/
def memB (zs : List Int) (j : Nat) : Bool := zs.any fun z => z == (j : Int)
/-- are all numbers from 0 to n - 1? -/
def inB (n : Nat) (zs : List Int) : Bool := zs.all fun z => decide (0 ≤ z) && decide (z < (n : Int))

theorem memB_snoc (zs : List Int) (k : Nat) (hk : k < zs.length) (j : Nat) : memB (zs.take (k + 1)) j = (memB (zs.take k) j || (zs.getD k 0 == (j : Int))) := by
  unfold memB
  rw [List.take_succ_eq_append_getElem hk, List.any_append, List.getD_eq_getElem?_getD, List.getElem?_eq_getElem hk]
  simp only [List.any_cons, List.any_nil, Bool.or_false, Option.getD_some]

theorem zeros_mk (n : Nat) (f : Nat → Bool) (hf : ∀ j, f j = false) : Kb.mkWords n f = List.replicate (Kb.nw n) 0 := by
  have hw : ∀ (p : Nat → Bool), (∀ i, p i = false) → ∀ k, Kb.wordTo p k = 0 := by
    intro p hp k
    induction k with
    | zero => rfl
    | succ k ih => simp [Kb.wordTo, ih, hp]
  unfold Kb.mkWords
  rw [List.map_congr_left (g := fun _ => 0) (fun i _ => hw _ (fun j => by rw [hf, Bool.and_false]) _)]
  exact List.map_const.trans (by rw [List.length_range])

theorem pow_natCast (k : Nat) : ((2 : Int) ^ k) = ((2 ^ k : Nat) : Int) := (Int.natCast_pow 2 k).symm
theorem or_pow (x k : Nat) (hx : x < 2 ^ 64) (hk : k < 64) : bits BinOp.or IntKind.u64 (x : Int) (IntKind.u64.wrap (2 ^ k)) = ((x ||| 2 ^ k : Nat) : Int) := by
  have hp : (2 : Nat) ^ k < 2 ^ 64 := Nat.pow_lt_pow_right (by omega) hk
  rw [pow_natCast, wrap_nat hp]
  exact u64_or_nat x _ hx hp
theorem World.cell?_setCell_other' (w : World) {b g : Nat} (i j : Nat) (u : Value) (h : b ≠ g) : (w.setCell ⟨g, i, none⟩ u).cell? ⟨b, j, none⟩ = w.cell? ⟨b, j, none⟩ :=
  World.cell?_of_block (w := w) (Below.heap_setCell w ⟨g, i, none⟩ u b h)
theorem two_set (w : World) {b : Nat} {x y : Value} (u v : Value) (h0 : w.cell? ⟨b, 0, none⟩ = some x) (h1 : w.cell? ⟨b, 1, none⟩ = some y) :
    ((w.setCell ⟨b, 0, none⟩ u).setCell ⟨b, 1, none⟩ v).cell? ⟨b, 0, none⟩ = some u ∧ ((w.setCell ⟨b, 0, none⟩ u).setCell ⟨b, 1, none⟩ v).cell? ⟨b, 1, none⟩ = some v := by
  refine ⟨?_, ?_⟩
  · rw [World.cell?_setCell_other _ _ _ _ (by simp)]
    exact World.cell?_setCell_same _ _ _ h0
  · refine World.cell?_setCell_same _ _ _ (u := y) ?_
    rw [World.cell?_setCell_other _ _ _ _ (by simp)]
    exact h1
theorem frozen_set (w : World) (p : Addr) (u : Value) (q : Addr) : (w.setCell p u).frozen? q = w.frozen? q := World.frozen?_setCell _ _ _ _

/-- Of's world in the loop -/
structure OfInv (w wr : World) (b6 g : Nat) (n m : Nat) (ws : List Nat) : Prop where
  c4 : ∀ v, v = Value.int .i64 0 → wr.cell? ⟨w.heap.size, 0, none⟩ = some v
  c4' : ∀ v, v = Value.slice none 0 0 → wr.cell? ⟨w.heap.size, 1, none⟩ = some v
  f4 : ∀ k, wr.frozen? ⟨w.heap.size, k, none⟩ = false
  c6 : wr.cell? ⟨b6, 0, none⟩ = some (.int .i64 (n : Int))
  c6' : wr.cell? ⟨b6, 1, none⟩ = some (.slice (some ⟨g, 0, none⟩) m m)
  row : WBlk wr g ws
  b6g : b6 ≠ g
  hg : w.heap.size < g
  bel : Below w.heap.size w wr

set_option maxRecDepth 100000 in
set_option maxHeartbeats 400000 in
theorem of_ok (n : Nat) (hn : n ≤ 4096) (A : Option Addr) (c : Nat) (zs : List Int) (w : World) (h : Ints w w.heap.size A zs) (hl : zs.length ≤ 17592186043904) (hin : inB n zs = true) :
    Calls Tryd.prog 88 #[.int .i64 (n : Int), .slice A zs.length c] w (SetRes n (Kb.mkWords n (memB zs)) w) := by
  go_enter Tryd.func88, Tryd.ntmps88
  go_wp2_with fail
  refine (new_ok n hn _).mono ?_
  rintro e w1 ⟨g, hg, rfl, hblk, hbel⟩
  have hc0 := hbel.cell (p := ⟨w.heap.size, 0, none⟩) (by simp)
  have hc1 := hbel.cell (p := ⟨w.heap.size, 1, none⟩) (by simp)
  have hf0 := hbel.frozen (p := ⟨w.heap.size, 0, none⟩) (by simp)
  have hf1 := hbel.frozen (p := ⟨w.heap.size, 1, none⟩) (by simp)
  have hz : w.heap.size < w1.heap.size := by have := hbel.size; simp at this; omega
  unfold setV
  go_wp2_with fail
  have hB : Below w.heap.size w (w1.alloc (.cells #[.int .i64 (n : Int), .slice (some ⟨g, 0, none⟩) (Kb.nw n) (Kb.nw n)] 46)) :=
    ((((Below.refl _ _).alloc (Nat.le_refl _) _).trans (hbel.mono (by simp))).alloc (by omega) _)
  have hg1 : g < w1.heap.size := hblk.lt
  have hgl : w.heap.size < g := by simp at hg; omega
  simp only [World.cell?_alloc_new, World.frozen?_alloc_new] at hc0 hc1 hf0 hf1
  go_loopw [21] (fun i wr => ∃ k : Nat, k ≤ zs.length ∧ i = .int .i64 k ∧ OfInv w wr w1.heap.size g n (Kb.nw n) (Kb.mkWords n (memB (zs.take k)))) (fun i _ => zs.length - (intOf i).toNat)
  case atStart =>
    refine ⟨0, Nat.zero_le _, rfl, ⟨?_, ?_, ?_, ?_, ?_, ?_, ?_, hgl, hB⟩⟩
    · rintro v rfl; rw [World.cell?_alloc_lt _ _ _ hz]; exact hc0
    · rintro v rfl; rw [World.cell?_alloc_lt _ _ _ hz]; exact hc1
    · intro k; rw [World.frozen?_alloc_past _ _ _ hz]; exact (hbel.frozen (p := ⟨w.heap.size, k, none⟩) (by simp)).trans (World.frozen?_alloc_new _ _ _ _)
    · exact World.cell?_alloc_new _ _ _ _
    · exact World.cell?_alloc_new _ _ _ _
    · have e : Kb.mkWords n (memB (zs.take 0)) = List.replicate (Kb.nw n) 0 := by
        rw [List.take_zero]
        exact zeros_mk n _ (fun j => rfl)
      rw [e]; exact hblk.alloc _
    · omega
  case round =>
    obtain ⟨k, hk, rfl, hinv⟩ := hrel
    by_cases hlt : k < zs.length
    · obtain ⟨b, off, z, rfl, hb, hc, hx⟩ := (h.below hinv.bel).at_ hlt
      have hzr : 0 ≤ z ∧ z < (n : Int) := by
        have h1 := List.all_eq_true.1 hin z (by rw [hx.out.1, List.getD_eq_getElem?_getD, List.getElem?_eq_getElem hlt]; exact List.getElem_mem hlt)
        simpa using h1
      obtain ⟨j, rfl⟩ := Int.eq_ofNat_of_zero_le hzr.1
      have hjn : j < n := by omega
      have hj2 : j / 64 < Kb.nw n := by unfold Kb.nw; omega
      have hcx := hinv.row.cell (k := j / 64) (by rw [Kb.mkWords_length]; exact hj2)
      have hfx := hinv.row.frozen (j / 64)
      obtain ⟨x, hX⟩ : ∃ x : Nat, Hid (x = (Kb.mkWords n (memB (zs.take k))).getD (j / 64) 0) := ⟨_, Lib.hid rfl⟩
      rw [← hX.out] at hcx
      have c6 := hinv.c6
      have c6' := hinv.c6'
      have e1 : IntKind.i64.wrap ((j : Int) / 64) = (j : Int) / 64 := IntWalk.i64_in _ (by omega)
      have e2 : ((j : Int)).tmod 64 = (j : Int) % 64 := Int.tmod_eq_emod_of_nonneg (by omega)
      have e3 : ((j : Int) / 64).toNat = j / 64 := by omega
      have e4 : (j : Int) / 64 < ((Kb.nw n : Nat) : Int) := by omega
      have e5 : (0 : Int) ≤ (j : Int) / 64 := by omega
      go_wp2_with fail
      go_region
      rw [or_pow x (j % 64) (by rw [hX.out]; exact (Kb.Ok.mk_ n _).get_lt _) (Nat.mod_lt _ (by decide))]
      go_wp2_with fail
      go_roundw
      case rel =>
        have hst : Kb.mkWords n (memB (zs.take (k + 1))) = (Kb.mkWords n (memB (zs.take k))).set (j / 64) (x ||| 2 ^ (j % 64)) := by
          rw [hX.out, Kb.set_or (Kb.Ok.mk_ n _) j hjn]
          refine Kb.mkWords_congr fun i hi => ?_
          rw [memB_snoc zs k hlt, Kb.bitAt_mkWords, ← hx.out.1]
          simp only [hi, decide_true, Bool.true_and]
          rw [Bool.or_comm]
          congr 1
          rw [Bool.eq_iff_iff, beq_iff_eq, beq_iff_eq]
          omega
        refine ⟨k + 1, by omega, by go_num, ⟨?_, ?_, ?_, ?_, ?_, ?_, hinv.b6g, hinv.hg, ?_⟩⟩
        · intro v hv; exact (World.cell?_setCell_other' wr _ _ _ (by have := hinv.hg; omega)).trans (hinv.c4 v hv)
        · intro v hv; exact (World.cell?_setCell_other' wr _ _ _ (by have := hinv.hg; omega)).trans (hinv.c4' v hv)
        · intro i; exact (frozen_set wr _ _ _).trans (hinv.f4 i)
        · exact (World.cell?_setCell_other' wr _ _ _ hinv.b6g).trans hinv.c6
        · exact (World.cell?_setCell_other' wr _ _ _ hinv.b6g).trans hinv.c6'
        · rw [hst]; exact (hinv.row.set_ _ _).drew
        · exact (hinv.bel.setCell (p := ⟨g, j / 64, none⟩) (Nat.le_of_lt hinv.hg) _).drew
      case measure => simp [intOf]; omega
    · have c4 := hinv.c4 _ rfl
      have c4' := hinv.c4' _ rfl
      have f40 := hinv.f4 0
      have f41 := hinv.f4 1
      have c6 := hinv.c6
      have c6' := hinv.c6'
      go_wp2_with fail
      obtain ⟨r0, r1⟩ := two_set wr (.int .i64 (n : Int)) (.slice (some ⟨g, 0, none⟩) (Kb.nw n) (Kb.nw n)) c4 c4'
      refine bodyPost_ret (v := .tuple #[setV (n : Int) (some ⟨g, 0, none⟩) (Kb.nw n) (Kb.nw n), .int .i64 0]) (by simp [results, Tryd.results88, go_sem, r0, r1, setV]) rfl ?_
      have e : k = zs.length := by omega
      subst e
      have hr := hinv.row
      rw [List.take_length] at hr
      refine ⟨some ⟨g, 0, none⟩, Kb.nw n, ?_, ?_, ?_⟩
      · rw [Kb.mkWords_length]
      · have hrow := (hr.far (p := ⟨w.heap.size, 0, none⟩) (by have := hinv.hg; simp; omega) (.int .i64 (n : Int))).far (p := ⟨w.heap.size, 1, none⟩) (by have := hinv.hg; simp; omega) (.slice (some ⟨g, 0, none⟩) (Kb.nw n) (Kb.nw n))
        exact hrow.words hrow.lt (Kb.mkWords_lt n _)
      · exact (hinv.bel.setCell (p := ⟨w.heap.size, 0, none⟩) (Nat.le_refl _) _).setCell (p := ⟨w.heap.size, 1, none⟩) (Nat.le_refl _) _
end Go.Proofs.YtckenemkfegopaaDoor
