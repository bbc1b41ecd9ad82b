/- Sorting and compacting rows of the call's own. -/
import Derived.Test.YtdbboeknknlolaaW2
namespace Go.Proofs.Ytdbboeknknlolaa
open Go.RowKit Go.Sort
set_option linter.unusedVariables false

theorem swo_of {α β : Type} {c : β → β → Int} (h : Cmp c) (f : α → β) : SWO (ltOf (fun a b => c (f a) (f b))) where
  irrefl x := by unfold ltOf; rw [decide_eq_false_iff_not]; exact h.irr _
  trans x y z h1 h2 := by unfold ltOf at *; rw [decide_eq_true_eq] at *; exact h.trans _ _ _ h1 h2
  ntrans x y z h1 h2 := by
    unfold ltOf at *
    rw [decide_eq_false_iff_not] at *
    intro h3
    rcases h.tri (f x) (f y) with e | e | e
    · exact h1 e
    · have h3' : c (f x) (f z) < 0 := h3
      rw [e] at h3'
      exact h2 h3'
    · exact h2 (h.trans _ _ _ e h3)
theorem perm_list {α : Type} [Inhabited α] {d d' : Array α} (h : PermIn 0 d.size d d') : d'.toList.Perm d.toList := by
  obtain ⟨h1, _, h3⟩ := h
  have e1 : d'.extract 0 d.size = d' := by rw [← h1]; simp
  have e2 : d.extract 0 d.size = d := by simp
  rwa [e1, e2] at h3
theorem sorted_list {α : Type} [Inhabited α] {lt : α → α → Bool} {d d' : Array α} (hs : d'.size = d.size) (h : SortedIn lt 0 d.size d') : d'.toList.Pairwise (fun a b => lt b a = false) := by
  rw [List.pairwise_iff_getElem]
  intro i j hi hj hij
  have hi' : i < d'.size := by simpa using hi
  have hj' : j < d'.size := by simpa using hj
  have := h i j (Nat.zero_le _) hij (by omega)
  rw [getElem!_pos d' i hi', getElem!_pos d' j hj'] at this
  simpa using this
theorem own_holds {α : Type} [Inhabited α] (enc : α → Value) {w : World} {base e g n cap : Nat} {L : List α} (h : w.ownsRow base e 1 (.slice (some ⟨g, 0, none⟩) n cap) n (L.map enc)) : Holds enc w g 0 L.toArray := by
  intro j hj
  have hj' : j < L.length := by simpa using hj
  rcases h.2 with ⟨h0, _⟩ | ⟨g', cap', cur, hv, hb, hg, h1, h2, h3, h4⟩
  · cases h0
  injection hv with hv1
  injection hv1 with hv2
  injection hv2 with hv3
  subst hv3
  have hl : (L.map enc).length = n * 1 := h.1
  rw [Nat.zero_add, cell_of_row w g j _ _ _ hg]
  refine ⟨?_, frozen_of_row w g j _ _ hg⟩
  have e1 : (cur.toList.take (n * 1))[j]? = cur[j]? := by
    rw [List.getElem?_take_of_lt (by rw [← hl, List.length_map]; exact hj'), Array.getElem?_toList]
  rw [← e1, h4, List.getElem?_map, List.getElem?_eq_getElem hj', getElem!_pos L.toArray j hj]
  rfl
theorem heap_put {α : Type} (enc : α → Value) (w : World) (g : Nat) (k : Nat) (d : Array α) (os : Array Obj) [Inhabited α] {cur : Array Value} {e : TypeId} {fr : Nat × Nat} (hg : w.heap[g]? = some (.cells cur e fr)) :
    (sortWorld enc w g 0 k d os).heap[g]? = some (.cells (putCells enc 0 d cur) e fr) := by
  have hlt : g < w.heap.size := (Array.getElem?_eq_some_iff.1 hg).1
  show ((w.heap.modify g (onCells (putCells enc 0 d))) ++ os)[g]? = _
  rw [Array.getElem?_append_left (by simpa using hlt), Array.getElem?_modify, if_pos rfl, hg]
  rfl
theorem put_take {α : Type} [Inhabited α] (enc : α → Value) (d : Array α) (cur : Array Value) (h : d.size ≤ cur.size) : (putCells enc 0 d cur).toList.take d.size = d.toList.map enc := by
  apply List.ext_getElem?
  intro j
  by_cases hj : j < d.size
  · rw [List.getElem?_take_of_lt hj, Array.getElem?_toList]
    unfold putCells
    rw [Array.getElem?_mapIdx, Array.getElem?_eq_getElem (by omega), Option.map_some, if_pos ⟨Nat.zero_le _, by omega⟩, List.getElem?_map, Array.getElem?_toList, Array.getElem?_eq_getElem hj, Nat.sub_zero, getElem!_pos d j hj]
    rfl
  · rw [List.getElem?_eq_none (by simp; omega), List.getElem?_eq_none (by simp; omega)]
theorem put_grown {α : Type} [Inhabited α] (enc : α → Value) (w : World) (g k : Nat) (d : Array α) (os : Array Obj) : w.grownBy (sortWorld enc w g 0 k d os) (some g) where
  os := rfl
  tape := rfl
  output := rfl
  size := by show w.heap.size ≤ ((w.heap.modify g (onCells (putCells enc 0 d))) ++ os).size; simp
  block b hb hne := by
    show ((w.heap.modify g (onCells (putCells enc 0 d))) ++ os)[b]? = _
    rw [Array.getElem?_append_left (by simpa using hb), Array.getElem?_modify, if_neg (fun e => hne (by rw [e]))]
theorem own_put {α : Type} [Inhabited α] (enc : α → Value) {w : World} {base e g n cap : Nat} {xs : List Value} (h : w.ownsRow base e 1 (.slice (some ⟨g, 0, none⟩) n cap) n xs) (d : Array α) (hd : d.size = n) (k : Nat) (os : Array Obj) :
    (sortWorld enc w g 0 k d os).ownsRow base e 1 (.slice (some ⟨g, 0, none⟩) n cap) n (d.toList.map enc) := by
  rcases h.2 with ⟨h0, _⟩ | ⟨g', cap', cur, hv, hb, hg, h1, h2, h3, h4⟩
  · cases h0
  injection hv with hv1 hv2 hv3
  injection hv1 with hv4
  injection hv4 with hv5
  subst hv5 hv3
  refine ⟨by simp [hd], .inr ⟨g, cap, putCells enc 0 d cur, rfl, hb, heap_put enc w g k d os hg, h1, h2, by unfold putCells; simpa using h3, ?_⟩⟩
  rw [Nat.mul_one, ← hd]
  exact put_take enc d cur (by omega)
/-- numbers in range, as a type of their own -/
abbrev ZI : Type := { x : Int // inI x }
instance : Inhabited ZI := ⟨⟨0, by unfold inI; decide⟩⟩
theorem zi_list {zs : List Int} (h : ∀ x ∈ zs, inI x) : ∃ L : List ZI, L.map Subtype.val = zs := by
  induction zs with
  | nil => exact ⟨[], rfl⟩
  | cons x l ih =>
    obtain ⟨L, hL⟩ := ih fun y hy => h y (by simp [hy])
    exact ⟨⟨x, h x (by simp)⟩ :: L, by rw [List.map_cons, hL]⟩
/-- what sorting leaves -/
def SzP (base : Nat) (v : Value) (n : Nat) (zs : List Int) (w : World) (r : Ending) (w' : World) : Prop :=
  r = .returned (.tuple #[]) ∧ ∃ zs' : List Int, zs'.Perm zs ∧ zs'.Pairwise (fun a b => ¬ litC b a < 0) ∧ w'.ownsRow base 3 1 v n (zvals zs') ∧ w.grownBy w' v.ownBlock
theorem sortZ_gen (f : Nat) (eg : ∀ args w, (callFunc f args).run Try.prog w = .ok (.enter f args) w) (hf : ∀ (x y : Int), inI x → inI y → ∀ W : World, Calls Try.prog f #[.int .i64 x, .int .i64 y] W fun e w' => e = .returned (.int .i64 (litC x y)) ∧ Gro W w')
    (base : Nat) (v : Value) (n : Nat) (zs : List Int) (w : World) (hown : w.ownsRow base 3 1 v n (zvals zs)) (hr : ∀ x ∈ zs, inI x) (hn : n ≤ 1000000) :
    Calls Try.prog 31 #[v, .func (.func f) #[] #[]] w (SzP base v n zs w) := by
  have hl : zs.length = n := by have := own_len hown; rwa [zvals_length] at this
  rcases hown.2 with ⟨rfl, h0⟩ | ⟨g, cap, cur, rfl, hb, hg, _⟩
  · subst h0
    obtain rfl := List.eq_nil_of_length_eq_zero hl
    exact (Try.slices_SortFunc_none_f31 (α := ZI) none 0 (.func (.func f) #[] #[]) w).mono fun e w' ⟨he, hw⟩ => ⟨he, [], List.Perm.refl _, .nil, by rw [hw]; exact hown, by rw [hw]; exact grown_refl _ _⟩
  · obtain ⟨L, rfl⟩ := zi_list hr
    have hlt : g < w.heap.size := (Array.getElem?_eq_some_iff.1 hg).1
    have e0 : zvals (L.map Subtype.val) = L.map (fun a : ZI => Value.int .i64 a.1) := by unfold zvals; rw [List.map_map]; rfl
    rw [e0] at hown
    have hs : L.toArray.size = n := by simpa using hl
    have H := Try.slices_SortFunc_f31 (α := ZI) (fun a => Value.int .i64 a.1) (fun _ => rfl) (fun a b => litC a.1 b.1) (swo_of litC_cmp Subtype.val) f #[] g 0 cap L.toArray w eg
      (fun m os dk _ x y => by
        have := hf x.1 y.1 x.2 y.2 (sortWorld (fun a : ZI => Value.int .i64 a.1) w g 0 m dk os)
        exact this.mono fun e w' ⟨he, q, os', hw⟩ => ⟨he, q, os', hw⟩)
      (own_holds _ hown) hlt (by omega)
    rw [hs] at H
    refine H.mono fun e w' ⟨he, d', k, os, hp, hso, hw⟩ => ⟨he, d'.toList.map Subtype.val, ?_, ?_, ?_, ?_⟩
    · rw [← hs] at hp
      have := perm_list hp
      exact this.map _
    · rw [← hs] at hso hp
      have h1 := sorted_list hp.1 hso
      rw [List.pairwise_map]
      refine h1.imp fun {a b} h => ?_
      unfold ltOf at h
      simpa using h
    · have e1 : zvals (d'.toList.map Subtype.val) = d'.toList.map (fun a : ZI => Value.int .i64 a.1) := by unfold zvals; rw [List.map_map]; rfl
      rw [e1, hw]
      exact own_put _ hown d' (by rw [← hs]; rw [← hs] at hp; exact hp.1) k os
    · rw [hw]; exact put_grown _ w g k d' os
/-- of a sorted list, what stays behind compacting: strictly ascending, the same things -/
theorem compact_srt {α : Type} [Inhabited α] [DecidableEq α] {c : α → α → Int} (hc : Cmp c) {zs : List α} (h : zs.Pairwise (fun a b => ¬ c b a < 0)) : Lib.compact zs = srt c zs := by
  have hget : ∀ i (hi : i < zs.length), zs.toArray[i]! = zs[i] := fun i hi => by rw [getElem!_pos zs.toArray i (by simpa using hi)]; simp
  have hle : ∀ i j (hi : i < zs.length) (hj : j < zs.length), i ≤ j → ¬ c zs[j] zs[i] < 0 := fun i j hi hj hij => by
    rcases Nat.lt_or_ge i j with h1 | h1
    · exact (List.pairwise_iff_getElem.1 h) i j hi hj h1
    · obtain rfl : i = j := by omega
      exact hc.irr _
  have hkeep : ∀ j (hj : j < zs.length), Lib.keeps zs.toArray j = true → ∀ i, i < j → c zs[i]! zs[j]! < 0 := fun j hj hk i hij => by
    have hi : i < zs.length := by omega
    rw [getElem!_pos zs i hi, getElem!_pos zs j hj]
    have hj1 : j - 1 < zs.length := by omega
    unfold Lib.keeps at hk
    rw [decide_eq_true_eq, hget j hj, hget (j - 1) hj1] at hk
    have h1 := hle i j hi hj (by omega)
    rcases hc.tri zs[i] zs[j] with e | e | e
    · exact e
    · exfalso
      have h2 := hle i (j - 1) hi hj1 (by omega)
      have h3 := hle (j - 1) j hj1 hj (by omega)
      rcases hc.tri zs[j - 1] zs[j] with e2 | e2 | e2
      · rw [e] at h2
        exact h2 e2
      · rcases hk with hk | hk
        · omega
        · exact hk e2.symm
      · exact h3 e2
    · exact absurd e h1
  refine srt_eq hc ?_ ?_
  · unfold Lib.compact Lib.compactUpTo
    rw [List.pairwise_map]
    have h1 : ((List.range zs.length).filter (Lib.keeps zs.toArray)).Pairwise (fun a b => a < b) := List.Pairwise.filter _ List.pairwise_lt_range
    refine List.Pairwise.imp_of_mem (fun {a b} ha hb hab => ?_) h1
    rw [List.mem_filter, List.mem_range] at ha hb
    have := hkeep b hb.1 hb.2 a hab
    rw [hget a ha.1, hget b hb.1]
    rwa [getElem!_pos zs a ha.1, getElem!_pos zs b hb.1] at this
  · intro x
    unfold Lib.compact Lib.compactUpTo
    constructor
    · intro hx
      obtain ⟨j, hj, rfl⟩ := List.mem_map.1 hx
      rw [List.mem_filter, List.mem_range] at hj
      rw [hget j hj.1]
      exact List.getElem_mem hj.1
    · intro hx
      have key : ∀ j (hj : j < zs.length), ∃ i, ∃ hi : i < zs.length, zs[i] = zs[j] ∧ Lib.keeps zs.toArray i = true := by
        intro j
        induction j with
        | zero => intro hj; exact ⟨0, hj, rfl, by unfold Lib.keeps; simp⟩
        | succ j ih =>
          intro hj
          by_cases he : zs[j + 1] = zs[j]
          · obtain ⟨i, hi, h1, h2⟩ := ih (by omega)
            exact ⟨i, hi, by rw [h1, he], h2⟩
          · refine ⟨j + 1, hj, rfl, ?_⟩
            unfold Lib.keeps
            rw [decide_eq_true_eq, hget (j + 1) hj, show j + 1 - 1 = j by omega, hget j (by omega)]
            exact .inr he
      obtain ⟨j, hj, rfl⟩ := List.getElem_of_mem hx
      obtain ⟨i, hi, h1, h2⟩ := key j hj
      exact List.mem_map.2 ⟨i, List.mem_filter.2 ⟨List.mem_range.2 hi, h2⟩, by rw [hget i hi, h1]⟩
theorem srt_perm {α : Type} {c : α → α → Int} (hc : Cmp c) {l m : List α} (h : l.Perm m) : srt c l = srt c m := srt_congr hc fun x => h.mem_iff
theorem compact_len {α : Type} [Inhabited α] [DecidableEq α] (zs : List α) : (Lib.compact zs).length ≤ zs.length := by
  unfold Lib.compact Lib.compactUpTo
  rw [List.length_map]
  exact Nat.le_trans (List.length_filter_le _ _) (by simp)
/-- what compacting leaves -/
def CzP (base : Nat) (v : Value) (zs : List Int) (w : World) (r : Ending) (w' : World) : Prop :=
  ∃ A c, r = .returned (.slice A zs.length c) ∧ RowS w' (fun b => base ≤ b) A (zvals zs) ∧ w.grownBy w' v.ownBlock
theorem compactZ_any (base : Nat) (v : Value) (n : Nat) (zs : List Int) (w : World) (hown : w.ownsRow base 3 1 v n (zvals zs)) (hn : n ≤ 1000000) :
    Calls Try.prog 33 #[v] w (CzP base v (Lib.compact zs) w) := by
  have hl : zs.length = n := by have := own_len hown; rwa [zvals_length] at this
  have ho := hown
  rcases hown.2 with ⟨rfl, h0⟩ | ⟨g, cap, cur, rfl, hb, hg, hc1, hc2, hc3, _⟩
  · subst h0
    obtain rfl := List.eq_nil_of_length_eq_zero hl
    clear hown ho hl hn
    go_enter Try.func33, Try.ntmps33
    go_wp2_with fail
    go_ret
    exact ⟨none, 0, rfl, ⟨fun h => absurd h (by simp [zvals, Lib.compact, Lib.compactUpTo])⟩, grown_refl _ _⟩
  · have hlt : g < w.heap.size := (Array.getElem?_eq_some_iff.1 hg).1
    have hs : zs.toArray.size = n := by simpa using hl
    have H := Try.slices_Compact (fun a : Int => Value.int .i64 a) (fun _ => rfl) (.intD _ _ _) (.intD _ _ _) 0 (fun _ => by kernel_rfl) g 0 cap zs.toArray w (own_holds (fun a : Int => Value.int .i64 a) hown) (by omega) (by omega)
    rw [hs] at H
    have ec : Lib.compactUpTo zs.toArray n = Lib.compact zs := by unfold Lib.compact; rw [hl]
    rw [ec] at H
    have hcl : (Lib.compact zs).length ≤ n := by rw [← hl]; exact compact_len zs
    refine H.mono fun e w' ⟨he, q, hw⟩ => ⟨some ⟨g, 0, none⟩, cap, he, ?_, ?_⟩
    · have hw2 : w' = sortWorld (fun a : Int => Value.int .i64 a) w g 0 q (Lib.compact zs ++ List.replicate (n - (Lib.compact zs).length) 0).toArray #[] := by rw [hw]; unfold sortWorld; rw [grow_empty]
      have ho2 := own_put (fun a : Int => Value.int .i64 a) ho (Lib.compact zs ++ List.replicate (n - (Lib.compact zs).length) 0).toArray (by simp; omega) q #[]
      rw [← hw2] at ho2
      have hr := RowS.of_own ho2 (by decide)
      refine ⟨fun h0 => ?_⟩
      rw [zvals_length] at h0
      obtain ⟨b, off, e1, e2, e3, e4⟩ := hr.cells (by simp; omega)
      refine ⟨b, off, e1, e2, e3, fun k u hu => e4 k u ?_⟩
      have hk : k < (Lib.compact zs).length := by have := (List.getElem?_eq_some_iff.1 hu).1; rwa [zvals_length] at this
      rw [← hu]
      unfold zvals
      rw [List.map_append, List.getElem?_append_left (by simpa using hk)]
    · rw [hw]
      have := put_grown (fun a : Int => Value.int .i64 a) w g q (Lib.compact zs ++ List.replicate (n - (Lib.compact zs).length) 0).toArray #[]
      unfold sortWorld at this
      rwa [grow_empty] at this
end Go.Proofs.Ytdbboeknknlolaa
