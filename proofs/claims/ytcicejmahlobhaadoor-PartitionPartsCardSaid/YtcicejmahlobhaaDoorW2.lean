/- The map from labels to classes; walks: Of and the reference's. -/
import Derived.Test.YtcicejmahlobhaaDoorOwn
namespace Go.Proofs.YtcicejmahlobhaaDoor
open Go.RowKit Go.Maps
set_option linter.unusedVariables false

namespace Kp
theorem keyLit (x : Int) : WideAt.IsKeyLit (.int .i64 x) := by trivial
/-- the map behind k labels -/
def Dm (f : Nat → Int) : Nat → DataW Unit
  | 0 => .map []
  | k + 1 => if newB f k then (Dm f k).put (.int .i64 (f k)) (.lit (.int .i64 (rank f k))) else Dm f k
theorem Dm_new {f : Nat → Int} {k : Nat} (h : newB f k = true) : Dm f (k + 1) = (Dm f k).put (.int .i64 (f k)) (.lit (.int .i64 (rank f k))) := by
  show (if newB f k then _ else _) = _
  rw [if_pos h]
theorem Dm_old {f : Nat → Int} {k : Nat} (h : newB f k = false) : Dm f (k + 1) = Dm f k := by
  show (if newB f k then _ else _) = _
  rw [h]; rfl
theorem Dm_tidy (f : Nat → Int) (k : Nat) : Tidy (Dm f k) := by
  induction k with
  | zero => exact tidy_empty
  | succ k ih =>
    cases h : newB f k with
    | true => rw [Dm_new h]; exact ih.put (keyLit _) _
    | false => rw [Dm_old h]; exact ih
theorem Dm_has (f : Nat → Int) (k : Nat) (v : Int) : Maps.has (Dm f k) (.int .i64 v) = (List.range k).any (fun j => f j == v) := by
  induction k with
  | zero => rfl
  | succ k ih =>
    rw [List.range_succ, List.any_append]
    cases h : newB f k with
    | true =>
      rw [Dm_new h]
      by_cases e : v = f k
      · subst e
        rw [has_put_same (Dm_tidy f k).isMap (keyLit _)]; simp
      · rw [has_put_other (by simpa using e), ih]
        have : (f k == v) = false := by simpa using fun h => e h.symm
        simp [this]
    | false =>
      rw [Dm_old h, ih]
      by_cases e : v = f k
      · subst e
        obtain ⟨j, hj, ej⟩ := newB_false h
        have : (List.range k).any (fun j => f j == f k) = true := List.any_eq_true.2 ⟨j, List.mem_range.2 hj, by simpa using ej⟩
        rw [this]; rfl
      · have : (f k == v) = false := by simpa using fun h => e h.symm
        simp [this]
theorem Dm_has_new (f : Nat → Int) (k : Nat) : Maps.has (Dm f k) (.int .i64 (f k)) = !newB f k := by
  rw [Dm_has]
  cases h : newB f k with
  | true =>
    rw [Bool.not_true, List.any_eq_false]
    intro j hj
    simpa using newB_true.1 h j (List.mem_range.1 hj)
  | false =>
    obtain ⟨j, hj, ej⟩ := newB_false h
    rw [Bool.not_false, List.any_eq_true]
    exact ⟨j, List.mem_range.2 hj, by simpa using ej⟩
theorem Dm_size (f : Nat → Int) (k : Nat) : Maps.size (Dm f k) = rank f k := by
  induction k with
  | zero => rfl
  | succ k ih =>
    cases h : newB f k with
    | true => rw [Dm_new h, size_put (Dm_tidy f k), Dm_has_new, h, Bool.not_true, if_neg (by decide), ih, rank_new h]
    | false => rw [Dm_old h, ih, rank_old h]
theorem Dm_at (f : Nat → Int) (k : Nat) (z : DataW Unit) : ∀ j, j < k → (Dm f k).atKey (.int .i64 (f j)) z = .lit (.int .i64 (cls f j)) := by
  induction k with
  | zero => intro j hj; exact absurd hj (Nat.not_lt_zero _)
  | succ k ih =>
    intro j hj
    cases h : newB f k with
    | true =>
      rw [Dm_new h]
      by_cases e : f j = f k
      · rw [e, atKey_put_same (Dm_tidy f k).isMap (keyLit _)]
        by_cases ej : j = k
        · rw [ej, cls_new h]
        · exact absurd e (newB_true.1 h j (by omega))
      · rw [atKey_put_other (by simpa using e)]
        exact ih j (by have : j ≠ k := fun ej => e (by rw [ej]); omega)
    | false =>
      rw [Dm_old h]
      by_cases ej : j = k
      · obtain ⟨i, hi, ei⟩ := newB_false h
        rw [ej, ← ei, ih i hi, cls_same ei]
      · exact ih j (by omega)

/-- the result behind k elements: zeros from there on -/
def ofTo (f : Nat → Int) (n k : Nat) : List Int := (List.range n).map fun i => if i < k then (cls f i : Int) else 0
theorem ofTo_length (f : Nat → Int) (n k : Nat) : (ofTo f n k).length = n := by simp [ofTo]
theorem ofTo_zero (f : Nat → Int) (n : Nat) : ofTo f n 0 = List.replicate n 0 := by
  unfold ofTo
  rw [show (fun i => if i < 0 then (cls f i : Int) else 0) = fun _ => (0 : Int) from funext fun i => if_neg (Nat.not_lt_zero i)]
  exact List.map_const.trans (by rw [List.length_range])
theorem ofTo_set (f : Nat → Int) (n k : Nat) (hk : k < n) : (ofTo f n k).set k (cls f k : Int) = ofTo f n (k + 1) := by
  apply List.ext_getElem?
  intro i
  unfold ofTo
  rw [List.getElem?_set, List.getElem?_map, List.getElem?_map]
  by_cases h : k = i
  · subst h
    rw [if_pos rfl, if_pos (by simp; exact hk), List.getElem?_range hk]
    simp
  · rw [if_neg h]
    by_cases hi : i < n
    · rw [List.getElem?_range hi]
      have : (i < k + 1) ↔ (i < k) := by omega
      simp [this]
    · rw [List.getElem?_eq_none (by simpa using hi)]; rfl
theorem ofTo_full (f : Nat → Int) (n : Nat) : ofTo f n n = ofF f n := by
  unfold ofTo ofF
  refine List.map_congr_left fun i hi => ?_
  rw [if_pos (List.mem_range.1 hi)]
theorem ofF_bd (f : Nat → Int) (n : Nat) (hn : n ≤ 1000000) : ∀ x ∈ ofF f n, -9223372036854775808 ≤ x ∧ x ≤ 9223372036854775807 := by
  intro x hx
  obtain ⟨i, hi, rfl⟩ := List.mem_map.1 hx
  have h1 := cls_le f i
  have h2 := rank_le f i
  have := List.mem_range.1 hi
  omega
end Kp

theorem setCell_grown (w : World) (p : Addr) (u : Value) : w.grownBy (w.setCell p u) (some p.block) :=
  ⟨rfl, rfl, rfl, by simp [World.setCell], fun k _ hk => Below.heap_setCell w p u k (fun e => hk (by rw [e]))⟩

/-- Of's world in the loop -/
structure OfInv (w wr : World) (f : Nat → Int) (n k : Nat) : Prop where
  row : IBlk wr w.heap.size (Kp.ofTo f n k)
  map : wr.ownsMap Tryd.prog 3 (plainElem Tryd.prog 3) (w.heap.size + 1) k (Kp.Dm f k)
  bel : Below w.heap.size w wr

set_option maxRecDepth 100000 in
set_option maxHeartbeats 2000000 in
theorem of_any (A : Option Addr) (c : Nat) (zs : List Int) (w : World) (h : Ints w w.heap.size A zs) (hl : zs.length ≤ 1000000) :
    Calls Tryd.prog 39 #[.slice A zs.length c] w (IntsRes (Kp.ofL zs) w) := by
  have hmm := @run_makeMap Tryd.prog
  have hmk := makeInts zs.length hl
  go_enter Tryd.func39, Tryd.ntmps39
  go_wp2_with fail
  clear hmk hmm
  go_loopw [15] (fun iv wr => ∃ k : Nat, k ≤ zs.length ∧ iv = .int .i64 k ∧ OfInv w wr (Kp.lab zs) zs.length k) (fun iv _ => zs.length - (intOf iv).toNat)
  case atStart =>
    refine ⟨0, Nat.zero_le _, rfl, ?_, ?_, ((Below.refl _ _).alloc (Nat.le_refl _) _).alloc (by simp) _⟩
    · rw [Kp.ofTo_zero]; exact (IBlk.new_ _ _).alloc _
    · have := World.ownsMap_made (H := Unit) (w.alloc (.cells (zcells (List.replicate zs.length 0)) 3)) Tryd.prog 3 (plainElem Tryd.prog 3)
      rw [show Kp.Dm (Kp.lab zs) 0 = .map [] from rfl]
      simpa using this
  case round =>
    obtain ⟨k, hk, rfl, I⟩ := hrel
    by_cases hlt : k < zs.length
    · obtain ⟨b, off, x, rfl, hbb, hc, hx⟩ := (h.below I.bel).at_ hlt
      have hkey : keyOf Tryd.prog 3 (.int .i64 x) = some (.int .i64 x) := keyOf_int_mk Tryd.underlying3 (wf_int hx.out.2)
      have hxl : Hid (x = Kp.lab zs k) := Lib.hid hx.out.1
      cases hn : Kp.newB (Kp.lab zs) k with
      | true =>
        have hh : Maps.has (Kp.Dm (Kp.lab zs) k) (.int .i64 x) = false := by rw [hxl.out, Kp.Dm_has_new, hn]; rfl
        have hs : Maps.size (Kp.Dm (Kp.lab zs) k) = Kp.rank (Kp.lab zs) k := Kp.Dm_size _ _
        have hrk := Kp.rank_le (Kp.lab zs) k
        have hwr : (Lit.int .i64 ((Kp.rank (Kp.lab zs) k : Nat) : Int)).wf = true := wf_int ⟨by omega, by omega⟩
        have hN := Lib.hid hn
        clear hn
        go_wp2_with (first
          | (at_lookup; refine wpList_lookup_own_ok_int _ rfl _ _ 84 rfl 3 3 .i64 lawInt Tryd.underlying84 Tryd.underlying3 (zeroInt _) (w.heap.size + 1) k _ rfl I.map _ _ rfl hkey ?_; intro c0 hat hwc)
          | (at_len; refine wpList_len_own _ rfl _ 84 rfl 3 3 Tryd.underlying84 _ (w.heap.size + 1) k _ rfl I.map ?_)
          | (at_mapUpdate; refine wpList_mapUpdate_own _ rfl _ _ _ 84 rfl 3 3 lawInt Tryd.underlying84 _ (w.heap.size + 1) k _ rfl I.map (by unfold maxLen; omega) _ _ _ rfl rfl hkey _ [] (plainElem_int Tryd.underlying3 hwr) ?_; intro w1 hown1 hgrow1; have hrow := I.row.grown hgrow1 (by simp); have hcg := hrow.cell (k := k) (by rw [Kp.ofTo_length]; exact hlt); have hfg := hrow.frozen k))
        go_roundw
        case rel =>
          refine ⟨k + 1, by omega, by go_num, ?_, ?_, ?_⟩
          · rw [← Kp.ofTo_set _ _ _ hlt, Kp.cls_new hN.out]
            exact hrow.set_ k _
          · rw [Kp.Dm_new hN.out, ← hxl.out]
            exact hown1.kept (w' := w1.setCell ⟨w.heap.size, k, none⟩ _) (setCell_grown w1 _ _) (by simp)
          · exact (I.bel.grown hgrow1 I.bel.size (fun j hj => by cases hj; omega)).setCell (by simp) _
        case measure => simp [intOf]; omega
      | false =>
        have hh : Maps.has (Kp.Dm (Kp.lab zs) k) (.int .i64 x) = true := by rw [hxl.out, Kp.Dm_has_new, hn]; rfl
        have hN := Lib.hid hn
        have hcg := I.row.cell (k := k) (by rw [Kp.ofTo_length]; exact hlt)
        have hfg := I.row.frozen k
        clear hn
        go_wp2_with (at_lookup; refine wpList_lookup_own_ok_int _ rfl _ _ 84 rfl 3 3 .i64 lawInt Tryd.underlying84 Tryd.underlying3 (zeroInt _) (w.heap.size + 1) k _ rfl I.map _ _ rfl hkey ?_; intro c0 hat hwc)
        have hc0 : Hid (c0 = (Kp.cls (Kp.lab zs) k : Int)) := Lib.hid (by
          obtain ⟨j, hj, ej⟩ := Kp.newB_false hN.out
          rw [hxl.out, ← ej, Kp.Dm_at _ _ _ j hj] at hat
          injection hat with hat
          injection hat with _ hat
          rw [← hat, Kp.cls_same ej])
        go_roundw
        case rel =>
          refine ⟨k + 1, by omega, by go_num, ?_, ?_, ?_⟩
          · rw [← Kp.ofTo_set _ _ _ hlt, ← hc0.out]
            exact I.row.set_ k _
          · rw [Kp.Dm_old hN.out]
            exact (I.map.kept (w' := wr.setCell ⟨w.heap.size, k, none⟩ _) (setCell_grown wr _ _) (by simp)).mono (Nat.le_succ _)
          · exact I.bel.setCell (by simp) _
        case measure => simp [intOf]; omega
    · obtain rfl : k = zs.length := by omega
      have hrow := I.row
      rw [Kp.ofTo_full] at hrow
      go_wp2_with fail
      go_ret
      have hlen : (Kp.ofL zs).length = zs.length := Kp.ofL_length zs
      exact ⟨some ⟨w.heap.size, 0, none⟩, zs.length, by rw [hlen]; rfl, hrow.ints hrow.lt (Kp.ofF_bd _ _ hl), I.bel⟩
end Go.Proofs.YtcicejmahlobhaaDoor
