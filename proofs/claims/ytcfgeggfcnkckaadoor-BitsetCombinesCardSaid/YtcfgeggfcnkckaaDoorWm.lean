/- Walks: the reference's All; rows of Booleans. -/
import Derived.Test.YtcfgeggfcnkckaaDoorWl
namespace Go.Proofs.YtcfgeggfcnkckaaDoor
open Go.RowKit
set_option linter.unusedVariables false

theorem bcells_congr {f g : Nat → Bool} {n : Nat} (h : ∀ j, j < n → f j = g j) : bcells f n = bcells g n := by
  unfold bcells
  exact List.map_congr_left fun j hj => by rw [h j (List.mem_range.1 hj)]

/-- the block g is just these cells, of type bool, not frozen -/
def BBlk (w : World) (g : Nat) (xs : List Value) : Prop := w.heap[g]? = some (.cells xs.toArray 4 (0, 0))
theorem BBlk.lt {w : World} {g : Nat} {xs : List Value} (h : BBlk w g xs) : g < w.heap.size := (Array.getElem?_eq_some_iff.1 h).1
theorem BBlk.cell {w : World} {g : Nat} {xs : List Value} (h : BBlk w g xs) {k : Nat} {v : Value} (hk : xs[k]? = some v) : w.cell? ⟨g, k, none⟩ = some v := by
  rw [cell_of_row w g k _ _ _ h]
  simpa using hk
theorem BBlk.frozen {w : World} {g : Nat} {xs : List Value} (h : BBlk w g xs) (k : Nat) : w.frozen? ⟨g, k, none⟩ = false := frozen_of_row w g k _ _ h
theorem BBlk.new_ (w : World) (xs : List Value) : BBlk (w.alloc (.cells xs.toArray 4)) w.heap.size xs := heap_alloc_new w _
theorem BBlk.set_ {w : World} {g : Nat} {xs : List Value} (h : BBlk w g xs) (k : Nat) (v : Value) : BBlk (w.setCell ⟨g, k, none⟩ v) g (xs.set k v) := by
  have h' : w.heap[g]? = some (.cells xs.toArray 4 (0, 0)) := h
  show ((w.setCell ⟨g, k, none⟩ v).heap)[g]? = some (.cells (xs.set k v).toArray 4 (0, 0))
  have e : (xs.set k v).toArray = xs.toArray.setIfInBounds k v := by simp
  rw [e]
  simp [World.setCell, Array.getElem?_modify, h']
theorem BBlk.row {w : World} {g B : Nat} {xs : List Value} (h : BBlk w g xs) (hg : g < B) : Row w B (some ⟨g, 0, none⟩) xs :=
  ⟨fun _ => ⟨g, 0, rfl, hg, fun k u hu => by rw [Nat.zero_add]; exact h.cell hu⟩⟩
theorem Row.far {w : World} {B : Nat} {A : Option Addr} {xs : List Value} (h : Row w B A xs) {p : Addr} (hp : B ≤ p.block) (u : Value) : Row (w.setCell p u) B A xs :=
  h.keep fun q hq => World.cell?_of_block (w := w) (Below.heap_setCell w p u q.block (by omega))
theorem bcells_false (n : Nat) : List.replicate n (Value.bool false) = bcells (fun _ => false) n := by
  unfold bcells
  exact (List.map_const' ..).symm ▸ by simp
theorem bcells_at (f : Nat → Bool) {n k : Nat} (hk : k < n) : (bcells f n)[k]? = some (.bool (f k)) := by
  unfold bcells; rw [List.getElem?_map, List.getElem?_range hk]; rfl

theorem makeBools (n : Nat) (hn : n ≤ 4096) (W : World) : (Instr.makeSlice 51 (.int .i64 (n : Int)) (.int .i64 (n : Int))).run Tryd.prog W = .ok (.slice (some ⟨W.heap.size, 0, none⟩) n n) (W.alloc (.cells (bcells (fun _ => false) n).toArray 4)) := by
  have h := run_make_row' (P := Tryd.prog) 51 4 (.bool false) 1 Tryd.underlying51 (by kernel_rfl) rfl .i64 .i64 n (by omega) (by omega) W
  have e : madeCells #[.bool false] n = (bcells (fun _ => false) n).toArray := by
    apply Array.ext
    · simp [madeCells, bcells]
    · intro i h1 h2
      simp [madeCells, bcells, Nat.mod_one]
  rw [e] at h
  exact h

/-- All's world in the loop -/
structure AlInv (w wr : World) (g n : Nat) (h : Nat → Bool) : Prop where
  t : Two wr w.heap.size (.int .i64 0) (.slice none 0 0)
  row : BBlk wr g (bcells h n)
  hg : w.heap.size < g
  bel : Below w.heap.size w wr

set_option maxRecDepth 100000 in
theorem rall_ok (n : Nat) (hn : n ≤ 4096) (w : World) : Calls Tryd.prog 17 #[.int .i64 (n : Int)] w (SetRes n (Kb.mkWords n (fun _ => true)) w) := by
  have q1 : ¬ (n : Int) < 0 := by omega
  have q2 : ¬ (4096 : Int) < (n : Int) := by omega
  have hmk := makeBools n hn
  go_enter Tryd.func17, Tryd.ntmps17
  go_wp2_with fail
  go_loopw [5] (fun i wr => ∃ k : Nat, k ≤ n ∧ i = .int .i64 k ∧ AlInv w wr (w.heap.size + 1) n (fun j => decide (j < k))) (fun i _ => n - (intOf i).toNat)
  case atStart =>
    refine ⟨0, Nat.zero_le _, rfl, ⟨(Two.new_ _ _ _ _).alloc _, ?_, by omega, (by repeat (first | exact Below.refl _ _ | refine bDrew ?_ _ | refine Below.drew ?_ | refine Below.alloc ?_ (by simp) _ | refine Below.setCell ?_ (by simp) _))⟩⟩
    have h0 := BBlk.new_ (w.alloc (.cells #[.int .i64 0, .slice none 0 0] 24)) (bcells (fun _ => false) n)
    rw [bcells_congr (f := fun j => decide (j < 0)) (g := fun _ => false) (fun j _ => by simp)]
    simpa using h0
  case round =>
    obtain ⟨k, hk, rfl, hinv⟩ := hrel
    by_cases hlt : k < n
    · have hc := hinv.row.cell (bcells_at _ hlt)
      have hf := hinv.row.frozen k
      go_wp2_with fail
      go_roundw
      case rel =>
        refine ⟨k + 1, by omega, by go_num, ⟨hinv.t.far (by simp; try omega) _, ?_, hinv.hg, hinv.bel.setCell (by simp; try omega) _⟩⟩
        have h1 := hinv.row.set_ k (.bool true)
        rw [bcells_set, bcells_congr (g := fun j => decide (j < k + 1)) (fun j _ => by by_cases e : j = k <;> simp [e] <;> omega)] at h1
        exact h1
      case measure => simp [intOf]; omega
    · obtain rfl : k = n := by omega
      go_wp2_with fail
      have hr := hinv.row.row (B := wr.heap.size) hinv.row.lt
      refine (make_ok k (some ⟨w.heap.size + 1, 0, none⟩) k (fun j => decide (j < k)) _ hr hn).mono ?_
      rintro e w3 ⟨A3, c3, rfl, hW3, hb3⟩
      have t := hinv.t.below hb3 hinv.t.lt
      have d10 := t.c0
      have d11 := t.c1
      have f10 := t.fr 0
      have f11 := t.fr 1
      have em : Kb.mkWords k (fun j => decide (j < k)) = Kb.mkWords k (fun _ => true) := Kb.mkWords_congr fun j hj => by simp [hj]
      rw [em] at hW3 ⊢
      unfold setV
      go_wp2_with fail
      obtain ⟨r0, r1⟩ := two_set w3 (.int .i64 (k : Int)) (.slice A3 (Kb.mkWords k (fun _ => true)).length c3) d10 d11
      refine bodyPost_ret (v := .tuple #[setV k A3 (Kb.mkWords k (fun _ => true)).length c3, .int .i64 0]) (by simp [results, Tryd.results17, go_sem, r0, r1, setV]) rfl ?_
      exact ⟨A3, c3, rfl, (hW3.put_two t _ _).more (by simp [World.setCell]), ((hinv.bel.trans (hb3.mono hinv.bel.size)).setCell (p := ⟨w.heap.size, 0, none⟩) (by simp) _).setCell (p := ⟨w.heap.size, 1, none⟩) (by simp) _⟩

end Go.Proofs.YtcfgeggfcnkckaaDoor
