/- Walks: unrank of a domain. -/
import Derived.Test.YtkcnaedffcmodaaW2
import Derived.BigRegion
namespace Go.Proofs.Ytkcnaedffcmodaa
open Go.RowKit Go.Maps
set_option linter.unusedVariables false

namespace Kd
/-- the vector behind its last digits: those before k are still zero -/
def unK (ds : List (Int × Nat)) (r k : Nat) : List Int := (List.range ds.length).map fun i => if i < k then 0 else lof ds i + (dg (cf ds) ds.length r i : Int)
theorem unK_length {ds : List (Int × Nat)} {r k : Nat} : (unK ds r k).length = ds.length := by unfold unK; simp
theorem unK_get {ds : List (Int × Nat)} {r k i : Nat} (h : i < ds.length) : (unK ds r k).getD i 0 = if i < k then 0 else lof ds i + (dg (cf ds) ds.length r i : Int) := by
  unfold unK
  rw [List.getD_eq_getElem?_getD, List.getElem?_map, List.getElem?_range h]; rfl
theorem unK_start {ds : List (Int × Nat)} {r : Nat} : unK ds r ds.length = List.replicate ds.length 0 := by
  refine list_ext (by rw [unK_length, List.length_replicate]) fun i hi => ?_
  rw [unK_length] at hi
  rw [unK_get hi, if_pos hi, List.getD_eq_getElem?_getD, List.getElem?_replicate, if_pos hi]; rfl
theorem unK_end {ds : List (Int × Nat)} {r : Nat} : unK ds r 0 = unL ds r := by
  unfold unK unL
  exact List.map_congr_left fun i _ => if_neg (Nat.not_lt_zero i)
theorem unK_step {ds : List (Int × Nat)} {r k : Nat} (h : k < ds.length) : unK ds r k = (unK ds r (k + 1)).set k (lof ds k + (dg (cf ds) ds.length r k : Int)) := by
  refine list_ext (by rw [List.length_set, unK_length, unK_length]) fun i hi => ?_
  rw [unK_length] at hi
  rw [unK_get hi, List.getD_eq_getElem?_getD, List.getElem?_set]
  by_cases e : k = i
  · subst e
    rw [if_neg (Nat.lt_irrefl k), if_pos rfl, if_pos (by rw [unK_length]; exact hi)]; rfl
  · rw [if_neg e, ← List.getD_eq_getElem?_getD, unK_get hi]
    by_cases hik : i < k
    · rw [if_pos hik, if_pos (by omega)]
    · rw [if_neg hik, if_neg (by omega)]
theorem unK_bd {ds : List (Int × Nat)} {r k : Nat} (hd : OkD ds) : ∀ x ∈ unK ds r k, -9223372036854775808 ≤ x ∧ x ≤ 9223372036854775807 := fun x hx => by
  unfold unK at hx
  obtain ⟨i, hi, rfl⟩ := List.mem_map.1 hx
  have hi := List.mem_range.1 hi
  have h1 := dg_lt (r := r) hd.pos hi
  have h2 := hd.lo i hi
  split <;> omega
end Kd

set_option maxRecDepth 100000 in
set_option maxHeartbeats 2000000 in
theorem unrank_any (A : Option Addr) (c : Nat) (ds : List (Int × Nat)) (r : Int) (w : World) (h : Dgs w w.heap.size A ds) (hd : Kd.OkD ds) (hl : ds.length ≤ 1000000) :
    Calls Try.prog 28 #[domV A ds.length c (Kd.pr ds : Nat), .int .i64 r] w (LisRes (Kd.unX ds r) (Kd.unC ds r) w) := by
  unfold domV
  have b0 := newB1 w (.cells #[.slice A ds.length c, .int .i64 (Kd.pr ds : Nat)] 54)
  have HD := Lib.hid hd
  have hsp := hd.sp
  obtain ⟨p, hp⟩ : ∃ p, Hid (Kd.pr ds = p) := ⟨_, Lib.hid rfl⟩
  rw [hp.out] at hsp b0 ⊢
  clear hd
  by_cases h1 : r < 0
  · have HR : Hid (Kd.unX ds r = [] ∧ Kd.unC ds r = 3) := Lib.hid (by unfold Kd.unX Kd.unC; rw [if_neg (by omega), if_neg (by omega)]; exact ⟨rfl, rfl⟩)
    go_enter Try.func28, Try.ntmps28
    go_wp2_with fail
    go_ret2
    exact ⟨none, 0, by rw [HR.out.1, HR.out.2]; rfl, by rw [HR.out.1]; exact Ints.nil _ _ _, b0⟩
  by_cases h2 : (p : Int) ≤ r
  · have HR : Hid (Kd.unX ds r = [] ∧ Kd.unC ds r = 3) := Lib.hid (by unfold Kd.unX Kd.unC; rw [hp.out, if_neg (by omega), if_neg (by omega)]; exact ⟨rfl, rfl⟩)
    go_enter Try.func28, Try.ntmps28
    go_wp2_with fail
    go_ret2
    exact ⟨none, 0, by rw [HR.out.1, HR.out.2]; rfl, by rw [HR.out.1]; exact Ints.nil _ _ _, b0⟩
  obtain ⟨r, rfl⟩ : ∃ n : Nat, r = (n : Int) := ⟨r.toNat, by omega⟩
  have hr0 : r < p := by omega
  have hr1 : (r : Int) < (p : Int) := by omega
  have HR : Hid (Kd.unX ds r = Kd.unL ds r ∧ Kd.unC ds r = 0) := Lib.hid (by unfold Kd.unX Kd.unC; rw [hp.out, if_pos ⟨by omega, by omega⟩, if_pos ⟨by omega, by omega⟩]; exact ⟨rfl, rfl⟩)
  have hmk := makeInts ds.length hl
  clear h1 h2
  go_enter Try.func28, Try.ntmps28
  go_wp2_with fail
  clear hmk
  have I0 : IBlk ((w.alloc (.cells #[.slice A ds.length c, .int .i64 (p : Nat)] 54)).alloc (.cells (zcells (List.replicate ds.length 0)) 3)) (w.heap.size + 1) (List.replicate ds.length 0) := by
    have := IBlk.new_ (w.alloc (.cells #[.slice A ds.length c, .int .i64 (p : Nat)] 54)) (List.replicate ds.length 0)
    rwa [World.size_alloc] at this
  have t0 : Two ((w.alloc (.cells #[.slice A ds.length c, .int .i64 (p : Nat)] 54)).alloc (.cells (zcells (List.replicate ds.length 0)) 3)) w.heap.size (.slice A ds.length c) (.int .i64 (p : Nat)) := (Two.new_ _ _ _ _).alloc _
  have B0 := bAlloc b0 (.cells (zcells (List.replicate ds.length 0)) 3)
  go_loopw [1, 7] (fun rv iv wr => ∃ (z : Int) (k s : Nat), k ≤ ds.length ∧ iv = .int .i64 z ∧ Hid (z = (k : Int) - 1) ∧ -1 ≤ z ∧ z ≤ 1000000 ∧ rv = .int .i64 s ∧ s ≤ 4096 ∧ Hid (s = r / Kd.P (Kd.cf ds) ds.length k) ∧ IBlk wr (w.heap.size + 1) (Kd.unK ds r k) ∧ Two wr w.heap.size (.slice A ds.length c) (.int .i64 (p : Nat)) ∧ Below w.heap.size w wr) (fun _ iv _ => (intOf iv + 1).toNat)
  case atStart => exact ⟨_, ds.length, r, Nat.le_refl _, rfl, Lib.hid rfl, by omega, by omega, rfl, by omega, Lib.hid (by rw [Kd.P_end, Nat.div_one]), by rw [Kd.unK_start]; exact I0, t0, B0⟩
  case round =>
    clear I0 t0 B0 b0
    obtain ⟨z, k, s, hk, rfl, hz, hz1, hz2, rfl, hs, hsk, I, t0, B⟩ := hrel
    by_cases hz0 : 0 ≤ z
    · obtain ⟨j, rfl⟩ : ∃ j : Nat, z = (j : Int) := ⟨z.toNat, by omega⟩
      obtain rfl : k = j + 1 := by have := hz.out; omega
      have hj : j < ds.length := by omega
      obtain ⟨bb, off, l, q, rfl, hbb, c0, c1, hlq⟩ := (h.below B).at_ hj
      have hbd := HD.out.lo j hj
      have hps := HD.out.pos j hj
      rw [← hlq.out.1, ← hlq.out.2] at hbd
      rw [← hlq.out.2] at hps
      have x0 := t0.c0
      have hsz := t0.lt
      have hszI := I.lt
      go_wp2_with fail
      have t5 := Two.new_ wr (.int .i64 l) (.int .i64 (q : Int)) 62
      have I5 := I.alloc (.cells #[.int .i64 l, .int .i64 (q : Int)] 62)
      have t05 := t0.alloc (.cells #[.int .i64 l, .int .i64 (q : Int)] 62)
      have B5 := bAlloc B (.cells #[.int .i64 l, .int .i64 (q : Int)] 62)
      clear I t0 B c0 c1 x0
      revert t5 I5 t05 B5 hsz hszI
      generalize wr.alloc (.cells #[.int .i64 l, .int .i64 (q : Int)] 62) = w5
      generalize wr.heap.size = g
      intro hsz hszI t5 I5 t05 B5
      obtain ⟨t, ht⟩ : ∃ t : Nat, Hid (s % q = t) := ⟨_, Lib.hid rfl⟩
      obtain ⟨u, hu⟩ : ∃ u : Nat, Hid (s / q = u) := ⟨_, Lib.hid rfl⟩
      have htq : t < q := by rw [← ht.out]; exact Nat.mod_lt _ hps
      have hus : u ≤ s := by rw [← hu.out]; exact Nat.div_le_self _ _
      have e1 : ((s : Int)).tmod (q : Int) = (t : Int) := by rw [← ht.out, ← Int.ofNat_tmod]
      have e2 : ((s : Int)).tdiv (q : Int) = (u : Int) := by rw [← hu.out, ← Int.ofNat_tdiv]
      have e3 : IntKind.i64.wrap (l + (t : Int)) = l + (t : Int) := IntWalk.i64_in _ (by omega)
      have e4 : IntKind.i64.wrap (t : Int) = (t : Int) := IntWalk.i64_in _ (by omega)
      have hq0 : ((q : Int) == 0) = false := by simp; omega
      have hq1 : (q : Int) ≠ 0 := by omega
      have d0 := t5.c0
      have d1 := t5.c1
      have x0 := I5.cell (k := j) (by rw [Kd.unK_length]; exact hj)
      have xf := I5.frozen j
      obtain ⟨y, hy⟩ : ∃ y, Hid ((Kd.unK ds r (j + 1)).getD j 0 = y) := ⟨_, Lib.hid rfl⟩
      rw [hy.out] at x0
      have hn1 : g ≠ w.heap.size + 1 := by omega
      have hn2 : w.heap.size + 1 ≠ g := by omega
      have HS : Hid (u = r / Kd.P (Kd.cf ds) ds.length j) := Lib.hid (by rw [← hu.out, hsk.out, hlq.out.2, Kd.div_step hj])
      have HK : Hid (Kd.unK ds r j = (Kd.unK ds r (j + 1)).set j (l + (t : Int))) := Lib.hid (by rw [Kd.unK_step hj, ← ht.out, hsk.out, hlq.out.1, hlq.out.2]; rfl)
      go_region
      have I6 := (I5.set_ j (l + (t : Int))).drew
      have t6 := (t5.far (p := ⟨w.heap.size + 1, j, none⟩) hn1 (.int .i64 (l + (t : Int)))).drewN 1
      have t06 := (t05.far (p := ⟨w.heap.size + 1, j, none⟩) (by simp) (.int .i64 (l + (t : Int)))).drewN 1
      have B6 : Below w.heap.size w (w5.setCell ⟨w.heap.size + 1, j, none⟩ (.int .i64 (l + (t : Int)))).drew := bDrew (B5.setCell (by simp) _) 1
      rw [← HK.out] at I6
      have d2 := (t5.far (p := ⟨w.heap.size + 1, j, none⟩) hn1 (.int .i64 (l + (t : Int)))).c1
      clear d0 x0 xf t5 I5 t05 B5
      go_wp2_with fail
      go_roundw
      case rel => exact ⟨(j : Int) - 1, j, u, by omega, by go_num, Lib.hid rfl, by omega, by omega, rfl, by omega, HS, I6, t06, B6⟩
      case measure => simp [intOf]
    · obtain rfl : k = 0 := by have := hz.out; omega
      rw [Kd.unK_end] at I
      have hI := I.ints I.lt (by rw [← Kd.unK_end]; exact Kd.unK_bd HD.out)
      go_wp2_with fail
      go_ret2
      exact ⟨_, ds.length, by rw [HR.out.1, HR.out.2, Kd.unL_length]; rfl, by rw [HR.out.1]; exact hI, B⟩
end Go.Proofs.Ytkcnaedffcmodaa
