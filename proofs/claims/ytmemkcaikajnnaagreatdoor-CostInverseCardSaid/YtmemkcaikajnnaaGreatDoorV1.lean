/- Walk: slices.Insert of one number. -/
import Derived.Test.YtmemkcaikajnnaaGreatDoorU6
import Derived.Shelf.Spec.SlicesInsert
import Derived.Shelf.Spec.SlicesInsertGrow
namespace Go.Proofs.YtmemkcaikajnnaaGreatDoor
open Go.RowKit Go.Sort
set_option linter.unusedVariables false

def insRen : Go.Shelf.Ren := ⟨fun | 21 => 11 | 27 => 31 | 28 => 32 | 35 => 52 | 39 => 72 | n => n, fun | 0 => 0 | 3 => 3 | 4 => 4 | 22 => 33 | n => n, fun | n => n⟩
theorem insLay : Lays2.n21 Tryz.prog insRen := {
  mixed := by kernel_rfl
  f21 := Tryz.func11.trans (congrArg some (by kernel_rfl))
  f27 := Tryz.func31.trans (congrArg some (by kernel_rfl))
  f28 := Tryz.func32.trans (congrArg some (by kernel_rfl))
  f35 := Tryz.func52.trans (congrArg some (by kernel_rfl))
  f39 := Tryz.func72.trans (congrArg some (by kernel_rfl))
  t0 := Tryz.underlying0
  a0 := Tryz.isAgg0
  z0 := Tryz.sizeOf0
  v0 := Tryz.zeroValue0
  t3 := Tryz.underlying3
  a3 := Tryz.isAgg3
  z3 := Tryz.sizeOf3
  v3 := Tryz.zeroValue3
  t4 := Tryz.underlying4
  a4 := Tryz.isAgg4
  z4 := Tryz.sizeOf4
  v4 := Tryz.zeroValue4
  t22 := Tryz.underlying33
  a22 := Tryz.isAgg33
  z22 := Tryz.sizeOf33
  v22 := Tryz.zeroValue33
  i3 := by kernel_rfl }
namespace Kp
/-- x comes at the place p -/
def ins (ks : List Nat) (p x : Nat) : List Nat := ks.take p ++ x :: ks.drop p
theorem ins_perm (ks : List Nat) (p x : Nat) : (ins ks p x).Perm (x :: ks) := by
  unfold ins
  have h := List.perm_middle (a := x) (l₁ := ks.take p) (l₂ := ks.drop p)
  rwa [List.take_append_drop] at h
theorem ins_len (ks : List Nat) (p x : Nat) : (ins ks p x).length = ks.length + 1 := by rw [(ins_perm ks p x).length_eq]; rfl
def nvals (ks : List Nat) : List Value := List.map (fun k : Nat => Value.int .i64 (k : Int)) ks
theorem nvals_len (ks : List Nat) : (nvals ks).length = ks.length := by unfold nvals; rw [List.length_map]
theorem nvals_at {ks : List Nat} {j : Nat} {x : Nat} (h : ks[j]? = some x) : (nvals ks)[j]? = some (.int .i64 (x : Int)) := by unfold nvals; rw [List.getElem?_map, h]; rfl
theorem nvals_one {ks : List Nat} : ∀ v ∈ nvals ks, v.oneCell' = true := by
  intro v hv
  obtain ⟨x, _, rfl⟩ := List.mem_map.1 hv
  rfl
theorem ins_at {ks : List Nat} {p x : Nat} (hp : p ≤ ks.length) (j : Nat) : (nvals (ins ks p x))[j]? = if j < p then (nvals ks)[j]? else if j = p then some (.int .i64 (x : Int)) else (nvals ks)[j - 1]? := by
  have hl : (ks.take p).length = p := by rw [List.length_take]; omega
  unfold nvals ins
  rw [List.getElem?_map]
  by_cases h1 : j < p
  · rw [if_pos h1, List.getElem?_append_left (by omega), List.getElem?_take_of_lt h1, List.getElem?_map]
  · rw [if_neg h1, List.getElem?_append_right (by omega), hl]
    by_cases h2 : j = p
    · subst h2; rw [if_pos rfl, Nat.sub_self]; rfl
    · rw [if_neg h2, show j - p = (j - 1 - p) + 1 by omega, List.getElem?_cons_succ, List.getElem?_drop, show p + (j - 1 - p) = j - 1 by omega, List.getElem?_map]
/-- cells that are written one after another -/
def wrs : Array Value → Nat → List Value → Array Value
  | cur, _, [] => cur
  | cur, o, v :: r => wrs (cur.setIfInBounds o v) (o + 1) r
theorem wrs_size : ∀ (vs : List Value) (cur : Array Value) (o : Nat), (wrs cur o vs).size = cur.size := by
  intro vs
  induction vs with
  | nil => intro cur o; rfl
  | cons v r ih => intro cur o; unfold wrs; rw [ih, Array.size_setIfInBounds]
theorem wrs_at : ∀ (vs : List Value) (cur : Array Value) (o j : Nat), o + vs.length ≤ cur.size → (wrs cur o vs)[j]? = if o ≤ j ∧ j < o + vs.length then vs[j - o]? else cur[j]? := by
  intro vs
  induction vs with
  | nil => intro cur o j _; rw [if_neg (by rw [List.length_nil]; omega)]; rfl
  | cons v r ih =>
    intro cur o j h
    rw [List.length_cons] at h
    unfold wrs
    rw [ih _ _ _ (by rw [Array.size_setIfInBounds]; omega), List.length_cons]
    by_cases h1 : j = o
    · subst h1
      rw [if_neg (by omega), if_pos (by omega), Nat.sub_self, Array.getElem?_setIfInBounds, if_pos rfl, if_pos (by omega)]; rfl
    · rw [Array.getElem?_setIfInBounds, if_neg (Ne.symm h1)]
      by_cases h2 : o ≤ j ∧ j < o + (r.length + 1)
      · rw [if_pos (by omega), if_pos h2, show j - o = (j - (o + 1)) + 1 by omega, List.getElem?_cons_succ]
      · rw [if_neg (by omega), if_neg h2]
end Kp
theorem heap_setCells {T : TypeId} {fr : Nat × Nat} {g : Nat} : ∀ (vs : List Value) (o : Nat) (w : World) (cur : Array Value), w.heap[g]? = some (.cells cur T fr) → (w.setCells g o vs).heap[g]? = some (.cells (Kp.wrs cur o vs) T fr) := by
  intro vs
  induction vs with
  | nil => intro o w cur h; exact h
  | cons v r ih =>
    intro o w cur h
    unfold World.setCells Kp.wrs
    refine ih _ _ _ ?_
    simp [World.setCell, Array.getElem?_modify, h]
theorem below_setCells {B g : Nat} {a : World} (hg : B ≤ g) : ∀ (vs : List Value) (o : Nat) (w : World), Below B a w → Below B a (w.setCells g o vs) := by
  intro vs
  induction vs with
  | nil => intro o w h; exact h
  | cons v r ih => intro o w h; unfold World.setCells; exact ih _ _ (h.setCell (p := ⟨g, o, none⟩) hg v)
/-- a row of small numbers that the call has made -/
structure Ord (w wr : World) (v : Value) (ks : List Nat) : Prop where
  ex : ∃ (g : Nat) (cur : Array Value), v = .slice (some ⟨g, 0, none⟩) ks.length cur.size ∧ w.heap.size ≤ g ∧ wr.heap[g]? = some (.cells cur 3 (0, 0)) ∧ ks.length ≤ cur.size ∧ cur.size ≤ maxLen ∧ (∀ (j : Nat) x, ks[j]? = some x → cur[j]? = some (.int .i64 (x : Int)))
  bel : Below w.heap.size w wr
theorem Ord.below {w wr w' : World} {v : Value} {ks : List Nat} (h : Ord w wr v ks) (hb : Below wr.heap.size wr w') : Ord w w' v ks := by
  obtain ⟨g, cur, rfl, hg, hh, h1, h2, h3⟩ := h.ex
  exact ⟨⟨g, cur, rfl, hg, (hb.block g (Array.getElem?_eq_some_iff.1 hh).1).trans hh, h1, h2, h3⟩, h.bel.trans (hb.mono h.bel.size)⟩
theorem Ord.start (w wr : World) (hb : Below w.heap.size w wr) : Ord w (wr.alloc (.cells #[] 3)) (.slice (some ⟨wr.heap.size, 0, none⟩) 0 0) [] :=
  ⟨⟨wr.heap.size, #[], rfl, hb.size, heap_alloc_new wr _, Nat.le_refl _, by unfold maxLen; simp, fun j x h => by simp at h⟩, hb.alloc hb.size _⟩
namespace Kp
/-- the cells behind a shift -/
theorem shift_at {ks : List Nat} {cur : Array Value} {p x : Nat} (hp : p < ks.length) (hr : ks.length + 1 ≤ cur.size) (h3 : ∀ (j : Nat) y, ks[j]? = some y → cur[j]? = some (.int .i64 (y : Int))) (j : Nat) (y : Nat) (hj : (ins ks p x)[j]? = some y) :
    (wrs (wrs cur (0 + (p + 1)) ((nvals ks).drop p)) (0 + p) [.int .i64 (x : Int)])[j]? = some (.int .i64 (y : Int)) := by
  have h := nvals_at hj
  rw [ins_at (Nat.le_of_lt hp)] at h
  have hjl : j < ks.length + 1 := by
    have := (List.getElem?_eq_some_iff.1 hj).1
    rwa [ins_len] at this
  rw [wrs_at _ _ _ _ (by rw [wrs_size]; simp only [List.length_cons, List.length_nil]; omega), wrs_at _ _ _ _ (by rw [List.length_drop, nvals_len]; omega), List.length_drop, nvals_len]
  simp only [List.length_cons, List.length_nil]
  by_cases h1 : j < p
  · rw [if_pos h1] at h
    rw [if_neg (by omega), if_neg (by omega)]
    have hy : ks[j]? = some (ks[j]'(by omega)) := List.getElem?_eq_getElem (by omega)
    rw [nvals_at hy] at h
    rw [h3 j _ hy]; exact h
  · rw [if_neg h1] at h
    by_cases h2 : j = p
    · rw [if_pos h2] at h
      rw [if_pos (by omega), show j - (0 + p) = 0 by omega]; exact h
    · rw [if_neg h2] at h
      rw [if_neg (by omega), if_pos (by omega), List.getElem?_drop, show p + (j - (0 + (p + 1))) = j - 1 by omega]; exact h
/-- the cells of a new row -/
theorem grown_at {ks : List Nat} {cur : Array Value} {p x : Nat} (hp : p < ks.length) (hr : ks.length + 1 ≤ cur.size) (h3 : ∀ (j : Nat), j < p → cur[j]? = (nvals ks)[j]?) (j : Nat) (y : Nat) (hj : (ins ks p x)[j]? = some y) :
    (wrs (wrs cur p [.int .i64 (x : Int)]) (p + 1) ((nvals ks).drop p))[j]? = some (.int .i64 (y : Int)) := by
  have h := nvals_at hj
  rw [ins_at (Nat.le_of_lt hp)] at h
  have hjl : j < ks.length + 1 := by
    have := (List.getElem?_eq_some_iff.1 hj).1
    rwa [ins_len] at this
  rw [wrs_at _ _ _ _ (by rw [wrs_size, List.length_drop, nvals_len]; omega), wrs_at _ _ _ _ (by simp only [List.length_cons, List.length_nil]; omega), List.length_drop, nvals_len]
  simp only [List.length_cons, List.length_nil]
  by_cases h1 : j < p
  · rw [if_pos h1] at h
    rw [if_neg (by omega), if_neg (by omega), h3 j h1]; exact h
  · rw [if_neg h1] at h
    by_cases h2 : j = p
    · rw [if_pos h2] at h
      rw [if_neg (by omega), if_pos (by omega), show j - p = 0 by omega]; exact h
    · rw [if_neg h2] at h
      rw [if_pos (by omega), List.getElem?_drop, show p + (j - (p + 1)) = j - 1 by omega]; exact h
theorem end_at {ks : List Nat} {cur : Array Value} {x : Nat} (hr : ks.length + 1 ≤ cur.size) (h3 : ∀ (j : Nat), j < ks.length → cur[j]? = (nvals ks)[j]?) (j : Nat) (y : Nat) (hj : (ins ks ks.length x)[j]? = some y) :
    (wrs cur (0 + ks.length) [.int .i64 (x : Int)])[j]? = some (.int .i64 (y : Int)) := by
  have h := nvals_at hj
  rw [ins_at (Nat.le_refl _)] at h
  have hjl : j < ks.length + 1 := by
    have := (List.getElem?_eq_some_iff.1 hj).1
    rwa [ins_len] at this
  rw [wrs_at _ _ _ _ (by simp only [List.length_cons, List.length_nil]; omega)]
  simp only [List.length_cons, List.length_nil]
  by_cases h1 : j < ks.length
  · rw [if_pos h1] at h
    rw [if_neg (by omega), h3 j h1]; exact h
  · rw [if_neg h1, if_pos (by omega)] at h
    rw [if_pos (by omega), show j - (0 + ks.length) = 0 by omega]; exact h
theorem snoc_at {ks : List Nat} {z : Array Value} {x : Nat} (j : Nat) (y : Nat) (hj : (ins ks ks.length x)[j]? = some y) :
    ((nvals ks ++ [Value.int .i64 (x : Int)]).toArray ++ z)[j]? = some (.int .i64 (y : Int)) := by
  have h := nvals_at hj
  rw [ins_at (Nat.le_refl _)] at h
  have hjl : j < ks.length + 1 := by
    have := (List.getElem?_eq_some_iff.1 hj).1
    rwa [ins_len] at this
  rw [Array.getElem?_append_left (by simp [nvals_len]; omega), List.getElem?_toArray]
  by_cases h1 : j < ks.length
  · rw [if_pos h1] at h
    rw [List.getElem?_append_left (by rw [nvals_len]; exact h1)]; exact h
  · rw [if_neg h1, if_pos (by omega)] at h
    rw [List.getElem?_append_right (by rw [nvals_len]; omega), nvals_len, show j - ks.length = 0 by omega]; exact h
end Kp
set_option maxRecDepth 100000 in
set_option maxHeartbeats 1000000 in
theorem ins_any {w wr : World} {v : Value} {ks : List Nat} (h : Ord w wr v ks) (p x : Nat) (hp : p ≤ ks.length) (hl : ks.length ≤ 1000) :
    Calls Tryz.prog 11 #[v, .int .i64 (p : Int), .slice (some ⟨wr.heap.size, 0, none⟩) 1 1] (wr.alloc (.cells #[.int .i64 (x : Int)] 3)) fun r w' => ∃ v', r = .returned v' ∧ Ord w w' v' (Kp.ins ks p x) := by
  obtain ⟨g, cur, rfl, hg, hh, h1, h2, h3⟩ := h.ex
  have hgl : g < wr.heap.size := (Array.getElem?_eq_some_iff.1 hh).1
  have hW : (wr.alloc (.cells #[.int .i64 (x : Int)] 3)).heap[g]? = some (.cells cur 3 (0, 0)) := (Below.heap_alloc wr _ g hgl).trans hh
  have hV : (wr.alloc (.cells #[.int .i64 (x : Int)] 3)).heap[wr.heap.size]? = some (.cells #[.int .i64 (x : Int)] 3 (0, 0)) := heap_alloc_new wr _
  have bW : Below w.heap.size w (wr.alloc (.cells #[.int .i64 (x : Int)] 3)) := h.bel.alloc h.bel.size _
  revert hW hV bW
  generalize wr.alloc (.cells #[.int .i64 (x : Int)] 3) = W
  generalize wr.heap.size = vb at hgl
  intro hW hV bW
  have hc63 : cur.size ≤ 9223372036854775807 := by unfold maxLen at h2; omega
  have hcu : ∀ j, j < ks.length → cur[j]? = (Kp.nvals ks)[j]? := fun j hj => by
    have hy : ks[j]? = some (ks[j]'hj) := List.getElem?_eq_getElem hj
    rw [h3 j _ hy, Kp.nvals_at hy]
  have hcs : ∀ j u, (Kp.nvals ks)[j]? = some u → W.cell? ⟨g, 0 + j, none⟩ = some u := fun j u hu => by
    rw [cell_of_row W g _ _ _ _ hW, Nat.zero_add]
    have hj : j < ks.length := by
      have := (List.getElem?_eq_some_iff.1 hu).1
      rwa [Kp.nvals_len] at this
    rw [hcu j hj]; exact hu
  have hvs : ∀ j u, [Value.int .i64 (x : Int)][j]? = some u → W.cell? ⟨vb, 0 + j, none⟩ = some u := fun j u hu => by
    rw [cell_of_row W vb _ _ _ _ hV, Nat.zero_add]
    show ([Value.int .i64 (x : Int)].toArray)[j]? = some u
    rw [List.getElem?_toArray]
    exact hu
  have hsp : ∀ j, j < ks.length + 1 → ks.length + 1 ≤ cur.size → (W.cell? ⟨g, 0 + j, none⟩).isSome = true := fun j hj hr => by
    rw [cell_of_row W g _ _ _ _ hW, Nat.zero_add, Array.getElem?_eq_getElem (by omega)]; rfl
  have hfz : ∀ k, W.frozen? ⟨g, k, none⟩ = false := fun k => frozen_of_row W g k _ _ hW
  have h1v : ∀ u ∈ [Value.int .i64 (x : Int)], u.oneCell' = true := fun u hu => by simp at hu; subst hu; rfl
  rcases Nat.lt_or_ge p ks.length with hlt | hge
  · rcases Nat.lt_or_ge cur.size (ks.length + 1) with hr | hr
    · refine (Any2.slices_Insert_int_grow insLay g 0 ks.length cur.size p vb 0 1 1 (Kp.nvals ks) [.int .i64 (x : Int)] W hlt (by decide) h1 hr (by omega) (Kp.nvals_len ks) rfl hcs hvs Kp.nvals_one h1v).mono ?_
      rintro r w' ⟨rfl, rfl⟩
      have hge := grownCap_ge W (ks.length + 1) cur.size 3
      have hle := grownCap_le_maxLen W (ks.length + 1) cur.size 3 (by unfold maxLen; omega)
      have hsz : (((Kp.nvals ks).take p).toArray ++ Builtin.zeroCells (Value.int .i64 0).cells (ks.length + 1 - p) ++ Builtin.zeroCells (Value.int .i64 0).cells (grownCap W (ks.length + 1) cur.size 3 - (ks.length + 1))).size = grownCap W (ks.length + 1) cur.size 3 := by
        rw [Array.size_append, Array.size_append, size_zeroCells, size_zeroCells, List.size_toArray, List.length_take, Kp.nvals_len]
        show min p ks.length + (ks.length + 1 - p) * 1 + (_ - (ks.length + 1)) * 1 = _
        omega
      have hat : ∀ j, j < p → (((Kp.nvals ks).take p).toArray ++ Builtin.zeroCells (Value.int .i64 0).cells (ks.length + 1 - p) ++ Builtin.zeroCells (Value.int .i64 0).cells (grownCap W (ks.length + 1) cur.size 3 - (ks.length + 1)))[j]? = (Kp.nvals ks)[j]? := fun j hj => by
        rw [Array.append_assoc, Array.getElem?_append_left (by rw [List.size_toArray, List.length_take, Kp.nvals_len]; omega), List.getElem?_toArray, List.getElem?_take_of_lt hj]
      have hgc : grownCap W (ks.length + 1) cur.size (insRen.t 3) = grownCap W (ks.length + 1) cur.size 3 := rfl
      rw [hgc]
      revert hsz hat hge hle
      generalize ((Kp.nvals ks).take p).toArray ++ Builtin.zeroCells (Value.int .i64 0).cells (ks.length + 1 - p) ++ Builtin.zeroCells (Value.int .i64 0).cells (grownCap W (ks.length + 1) cur.size 3 - (ks.length + 1)) = new
      generalize grownCap W (ks.length + 1) cur.size 3 = cap
      intro hge hle hsz hat
      have hN : (W.alloc (.cells new 3)).drew.heap[W.heap.size]? = some (.cells new 3 (0, 0)) := heap_alloc_new W _
      have hN2 := heap_setCells [.int .i64 (x : Int)] p _ _ hN
      have hN3 := heap_setCells ((Kp.nvals ks).drop p) (p + 1) (((W.alloc (.cells new 3)).drew.setCells W.heap.size p [.int .i64 (x : Int)]).drew) _ hN2
      refine ⟨_, rfl, ⟨⟨W.heap.size, _, ?_, bW.size, hN3, ?_, ?_, fun j y hj => Kp.grown_at hlt (by omega) hat j y hj⟩, ?_⟩⟩
      · rw [Kp.ins_len, Kp.wrs_size, Kp.wrs_size, hsz]
      · rw [Kp.ins_len, Kp.wrs_size, Kp.wrs_size, hsz]; exact hge
      · rw [Kp.wrs_size, Kp.wrs_size, hsz]; exact hle
      · exact below_setCells bW.size _ _ _ ((below_setCells bW.size _ _ _ ((bW.alloc bW.size _).drew)).drew)
    · refine (Any2.slices_Insert_int_shift insLay g 0 ks.length cur.size p vb 0 1 1 (Kp.nvals ks) [.int .i64 (x : Int)] W hlt (by decide) hr hc63 (by omega) (Kp.nvals_len ks) rfl hcs (fun j hj => hsp j hj hr) (fun j _ => hfz _) hvs Kp.nvals_one h1v 3 3 1 cur.size (by unfold World.shape?; rw [hV]; rfl) (by unfold World.shape?; rw [hW]) (by omega) (frozen_of_row W vb _ _ _ hV) (frozen_of_row W vb _ _ _ hV)).mono ?_
      rintro r w' ⟨rfl, rfl⟩
      have hN2 := heap_setCells ((Kp.nvals ks).drop p) (0 + (p + 1)) W.drew _ hW
      have hN3 := heap_setCells [.int .i64 (x : Int)] (0 + p) _ _ hN2
      refine ⟨_, rfl, ⟨⟨g, _, ?_, hg, hN3, ?_, ?_, fun j y hj => Kp.shift_at hlt hr h3 j y hj⟩, ?_⟩⟩
      · rw [Kp.ins_len, Kp.wrs_size, Kp.wrs_size]
      · rw [Kp.ins_len, Kp.wrs_size, Kp.wrs_size]; exact hr
      · rw [Kp.wrs_size, Kp.wrs_size]; exact h2
      · exact below_setCells hg _ _ _ (below_setCells hg _ _ _ bW.drew)
  · obtain rfl : p = ks.length := by omega
    rcases Nat.lt_or_ge cur.size (ks.length + 1) with hr | hr
    · refine (Any2.slices_Insert_int_end_grow insLay (some ⟨g, 0, none⟩) ks.length cur.size vb 0 1 1 (Kp.nvals ks) [.int .i64 (x : Int)] W (by decide) h1 hr (by omega) (Kp.nvals_len ks) rfl (fun e => by cases e) (fun a ha j u hu => by
        injection ha with ha
        subst ha
        have := hcs j u hu
        have e : (⟨g, 0, none⟩ : Addr).add j = ⟨g, 0 + j, none⟩ := by unfold Addr.add; split <;> simp_all
        rw [e]; exact this) hvs h1v).mono ?_
      rintro r w' ⟨rfl, rfl⟩
      have hge := grownCap_ge W (ks.length + 1) cur.size 3
      have hle := grownCap_le_maxLen W (ks.length + 1) cur.size 3 (by unfold maxLen; omega)
      have hgc : grownCap W (ks.length + 1) cur.size (insRen.t 3) = grownCap W (ks.length + 1) cur.size 3 := rfl
      rw [hgc]
      have hsz : ((Kp.nvals ks ++ [Value.int .i64 (x : Int)]).toArray ++ Builtin.zeroCells (Value.int .i64 0).cells (grownCap W (ks.length + 1) cur.size 3 - (ks.length + 1))).size = grownCap W (ks.length + 1) cur.size 3 := by
        rw [Array.size_append, size_zeroCells, List.size_toArray, List.length_append, Kp.nvals_len]
        show ks.length + 1 + (_ - (ks.length + 1)) * 1 = _
        omega
      have hN : (W.drew.alloc (.cells ((Kp.nvals ks ++ [Value.int .i64 (x : Int)]).toArray ++ Builtin.zeroCells (Value.int .i64 0).cells (grownCap W (ks.length + 1) cur.size 3 - (ks.length + 1))) 3)).heap[W.heap.size]? = some (.cells ((Kp.nvals ks ++ [Value.int .i64 (x : Int)]).toArray ++ Builtin.zeroCells (Value.int .i64 0).cells (grownCap W (ks.length + 1) cur.size 3 - (ks.length + 1))) 3 (0, 0)) := heap_alloc_new W.drew _
      refine ⟨_, rfl, ⟨⟨W.heap.size, _, ?_, bW.size, hN, ?_, ?_, fun j y hj => Kp.snoc_at j y hj⟩, ?_⟩⟩
      · rw [Kp.ins_len, hsz]
      · rw [Kp.ins_len, hsz]; exact hge
      · rw [hsz]; exact hle
      · exact bW.drew.alloc bW.size _
    · refine (Any2.slices_Insert_int_end_room insLay g 0 ks.length cur.size vb 0 1 1 [.int .i64 (x : Int)] W (by decide) hr hc63 rfl (fun j hj => by
        have := hsp (ks.length + j) (by omega) hr
        rwa [show 0 + ks.length + j = 0 + (ks.length + j) by omega]) (fun j _ => hfz _) hvs h1v).mono ?_
      rintro r w' ⟨rfl, rfl⟩
      have hN3 := heap_setCells [.int .i64 (x : Int)] (0 + ks.length) W _ hW
      refine ⟨_, rfl, ⟨⟨g, _, ?_, hg, hN3, ?_, ?_, fun j y hj => Kp.end_at hr hcu j y hj⟩, ?_⟩⟩
      · rw [Kp.ins_len, Kp.wrs_size]
      · rw [Kp.ins_len, Kp.wrs_size]; exact hr
      · rw [Kp.wrs_size]; exact h2
      · exact below_setCells hg _ _ _ bW
end Go.Proofs.YtmemkcaikajnnaaGreatDoor
