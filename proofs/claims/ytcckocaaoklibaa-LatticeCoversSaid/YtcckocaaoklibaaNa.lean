/- Walks: the reference's closed. -/
import Derived.Test.YtcckocaaoklibaaN3
import Derived.Deep.OwnRows
import Derived.Maps.OwnSet
import Derived.Maps.AppendAt
import Derived.Laws.OwnMore
import Derived.Deep.AppendLies
namespace Go.Proofs.Ytcckocaaoklibaa
open Go.RowKit Go.Maps
set_option linter.unusedVariables false

def bcells (f : Nat → Bool) (k : Nat) : List Value := (List.range k).map fun i => Value.bool (f i)
theorem bcells_congr {f g : Nat → Bool} {n : Nat} (h : ∀ j, j < n → f j = g j) : bcells f n = bcells g n := by
  unfold bcells
  exact List.map_congr_left fun j hj => by rw [h j (List.mem_range.1 hj)]
theorem bcells_set (f : Nat → Bool) (n i : Nat) (m : Bool) : (bcells f n).set i (.bool m) = bcells (fun j => if j = i then m else f j) n := by
  apply List.ext_getElem?
  intro j
  unfold bcells
  rw [List.getElem?_set]
  by_cases e : i = j
  · subst e
    by_cases h : i < n
    · rw [if_pos rfl, if_pos (by simpa using h), List.getElem?_map, List.getElem?_range h]; simp
    · rw [if_pos rfl, if_neg (by simpa using h), List.getElem?_eq_none (by simp; omega)]
  · rw [if_neg e, List.getElem?_map, List.getElem?_map]
    by_cases h : j < n
    · rw [List.getElem?_range h]; simp [show ¬ j = i from fun q => e q.symm]
    · rw [List.getElem?_eq_none (by simp; omega)]; rfl
/-- the block g is just these cells, of type bool, not frozen -/
def BBlk (w : World) (g : Nat) (xs : List Value) : Prop := w.heap[g]? = some (.cells xs.toArray 4 (0, 0))
theorem BBlk.lt {w : World} {g : Nat} {xs : List Value} (h : BBlk w g xs) : g < w.heap.size := (Array.getElem?_eq_some_iff.1 h).1
theorem BBlk.cell {w : World} {g : Nat} {xs : List Value} (h : BBlk w g xs) {k : Nat} {v : Value} (hk : xs[k]? = some v) : w.cell? ⟨g, k, none⟩ = some v := by
  rw [cell_of_row w g k _ _ _ h]
  simpa using hk
theorem BBlk.frozen {w : World} {g : Nat} {xs : List Value} (h : BBlk w g xs) (k : Nat) : w.frozen? ⟨g, k, none⟩ = false := frozen_of_row w g k _ _ h
theorem BBlk.new_ (w : World) (xs : List Value) : BBlk (w.alloc (.cells xs.toArray 4)) w.heap.size xs := heap_alloc_new w _
theorem BBlk.alloc {w : World} {g : Nat} {xs : List Value} (h : BBlk w g xs) (o : Obj) : BBlk (w.alloc o) g xs := (Below.heap_alloc w o g h.lt).trans h
theorem BBlk.far {w : World} {g : Nat} {xs : List Value} (h : BBlk w g xs) {p : Addr} (hp : g ≠ p.block) (u : Value) : BBlk (w.setCell p u) g xs := (Below.heap_setCell w p u g hp).trans h
theorem BBlk.grown {w w' : World} {g : Nat} {xs : List Value} {row : Option Nat} (h : BBlk w g xs) (hg : w.grownBy w' row) (hne : some g ≠ row) : BBlk w' g xs := (hg.block g h.lt hne).trans h
theorem BBlk.set_ {w : World} {g : Nat} {xs : List Value} (h : BBlk w g xs) (k : Nat) (v : Value) : BBlk (w.setCell ⟨g, k, none⟩ v) g (xs.set k v) := by
  have h' : w.heap[g]? = some (.cells xs.toArray 4 (0, 0)) := h
  show ((w.setCell ⟨g, k, none⟩ v).heap)[g]? = some (.cells (xs.set k v).toArray 4 (0, 0))
  have e : (xs.set k v).toArray = xs.toArray.setIfInBounds k v := by simp
  rw [e]
  simp [World.setCell, Array.getElem?_modify, h']
theorem bcells_at (f : Nat → Bool) {n k : Nat} (hk : k < n) : (bcells f n)[k]? = some (.bool (f k)) := by
  unfold bcells; rw [List.getElem?_map, List.getElem?_range hk]; rfl
theorem makeBools (n : Nat) (hn : n ≤ 1000000) (W : World) : (Instr.makeSlice 40 (.int .i64 (n : Int)) (.int .i64 (n : Int))).run Try.prog W = .ok (.slice (some ⟨W.heap.size, 0, none⟩) n n) (W.alloc (.cells (bcells (fun _ => false) n).toArray 4)) := by
  have h := run_make_row' (P := Try.prog) 40 4 (.bool false) 1 Try.underlying40 (by kernel_rfl) rfl .i64 .i64 n (by omega) (by omega) W
  have e : madeCells #[.bool false] n = (bcells (fun _ => false) n).toArray := by
    apply Array.ext
    · simp [madeCells, bcells]
    · intro i h1 h2
      simp [madeCells, bcells, Nat.mod_one]
  rw [e] at h
  exact h

theorem infoSl : (Try.prog.info? 40).map (fun i => (i.zero, i.size, i.bytes)) = some (some (.slice none 0 0), 1, 24) := by kernel_rfl
/-- rows as values, each in a block of its own -/
def sv (n : Nat) (gs : List Nat) : List Value := gs.map fun g => .slice (some ⟨g, 0, none⟩) n n
theorem sv_snoc (n : Nat) (gs : List Nat) (g : Nat) : sv n (gs ++ [g]) = sv n gs ++ [.slice (some ⟨g, 0, none⟩) n n] := by simp [sv]
theorem sv_length (n : Nat) (gs : List Nat) : (sv n gs).length = gs.length := by simp [sv]
theorem own_slice {w : World} {base e n : Nat} {v : Value} {xs : List Value} (h : w.ownsRow base e 1 v n xs) : ∃ A c, v = .slice A n c := by
  rcases h.2 with ⟨rfl, rfl⟩ | ⟨g, cap, cur, rfl, _⟩
  · exact ⟨none, 0, rfl⟩
  · exact ⟨_, cap, rfl⟩
theorem own_ne {w : World} {base n g : Nat} {v : Value} {xs ys : List Value} (h : w.ownsRow base 40 1 v n xs) (hg : BBlk w g ys) : some g ≠ v.ownBlock := by
  intro e
  rcases h.2 with ⟨rfl, _⟩ | ⟨g', cap, cur, rfl, _, h', _⟩
  · simp [Value.ownBlock] at e
  · simp only [Value.ownBlock, Option.some.injEq] at e
    subst e
    unfold BBlk at hg
    rw [h'] at hg
    simp at hg

/-- closed's world: rows of a relation, each in a block of its own -/
structure ClInv (w wr : World) (v : Value) (gs : List Nat) (n : Nat) (R : Nat → Nat → Bool) : Prop where
  own : wr.ownsRow w.heap.size 40 1 v gs.length (sv n gs)
  el : ∀ (i g : Nat), gs[i]? = some g → BBlk wr g (bcells (R i) n) ∧ w.heap.size ≤ g
  nd : ∀ (i j g : Nat), gs[i]? = some g → gs[j]? = some g → i = j
  bel : Below w.heap.size w wr

theorem setCell_grown (w : World) (p : Addr) (u : Value) : w.grownBy (w.setCell p u) (some p.block) :=
  ⟨rfl, rfl, rfl, by simp [World.setCell], fun k _ hk => Below.heap_setCell w p u k (fun e => hk (by rw [e]))⟩
theorem ClInv.congr {w wr : World} {v : Value} {gs : List Nat} {n : Nat} {R S : Nat → Nat → Bool} (h : ClInv w wr v gs n R) (hl : gs.length = n) (e : ∀ i j, i < n → j < n → R i j = S i j) : ClInv w wr v gs n S :=
  ⟨h.own, fun i g hg => by
    have hi := (List.getElem?_eq_some_iff.1 hg).1
    rw [← bcells_congr (f := R i) (fun j hj => e i j (by omega) hj)]; exact h.el i g hg, h.nd, h.bel⟩
theorem ClInv.store {w wr : World} {v : Value} {gs : List Nat} {n i j g : Nat} {R : Nat → Nat → Bool} (h : ClInv w wr v gs n R) (hg : gs[i]? = some g) : ClInv w (wr.setCell ⟨g, j, none⟩ (.bool true)) v gs n (fun i' j' => if i' = i ∧ j' = j then true else R i' j') where
  own := h.own.kept (row := some g) (setCell_grown wr ⟨g, j, none⟩ _) (.inr (fun e => own_ne h.own (h.el i g hg).1 e.symm))
  el := by
    intro i' g' hg'
    refine ⟨?_, (h.el i' g' hg').2⟩
    by_cases e : g' = g
    · subst e
      obtain rfl := h.nd i' i g' hg' hg
      have h1 := (h.el i' g' hg').1.set_ j (.bool true)
      rw [bcells_set] at h1
      rw [bcells_congr (g := fun j' => if j' = j then true else R i' j') (fun j' _ => by by_cases q : j' = j <;> simp [q])]
      exact h1
    · have hne : i' ≠ i := fun q => by
        subst q
        rw [hg] at hg'
        injection hg' with hg'
        exact e hg'.symm
      rw [bcells_congr (g := R i') (fun j' _ => by simp [hne])]
      exact (h.el i' g' hg').1.far (by simpa using e) _
  nd := h.nd
  bel := h.bel.setCell (by simpa using (h.el i g hg).2) _
theorem ClInv.drew {w wr : World} {v : Value} {gs : List Nat} {n : Nat} {R : Nat → Nat → Bool} (h : ClInv w wr v gs n R) : ClInv w wr.drew v gs n R :=
  ⟨h.own.kept (row := none) ⟨rfl, rfl, rfl, Nat.le_refl _, fun _ _ _ => rfl⟩ (by cases hv : v.ownBlock <;> simp), fun i g hg => ⟨(h.el i g hg).1, (h.el i g hg).2⟩, h.nd, h.bel.drew⟩
theorem ClInv.snoc {w wr w3 : World} {v v' : Value} {gs : List Nat} {n : Nat} {R : Nat → Nat → Bool} {o : Obj} (h : ClInv w wr v gs n R)
    (ho : w3.ownsRow w.heap.size 40 1 v' (gs.length + 1) (sv n gs ++ [.slice (some ⟨wr.heap.size, 0, none⟩) n n]))
    (hgr : ((wr.alloc (.cells (bcells (R gs.length) n).toArray 4)).alloc o).grownBy w3 v.ownBlock) : ClInv w w3 v' (gs ++ [wr.heap.size]) n R where
  own := by rw [sv_snoc, List.length_append]; exact ho
  el := by
    intro i g e
    rw [List.getElem?_append] at e
    split at e
    · obtain ⟨h1, h2⟩ := h.el i g e
      have h3 := (h1.alloc (.cells (bcells (R gs.length) n).toArray 4)).alloc o
      exact ⟨h3.grown hgr (own_ne ((h.own.alloc _).alloc o) h3), h2⟩
    · rename_i hi
      have hie : i = gs.length := by
        rcases Nat.lt_or_ge (i - gs.length) 1 with h1 | h1
        · omega
        · rw [List.getElem?_eq_none (by simpa using h1)] at e; simp at e
      subst hie
      simp at e
      subst e
      have h3 := (BBlk.new_ wr (bcells (R gs.length) n)).alloc o
      exact ⟨h3.grown hgr (own_ne ((h.own.alloc _).alloc o) h3), h.bel.size⟩
  nd := by
    intro i j g hi hj
    rw [List.getElem?_append] at hi hj
    have hlt : ∀ (a g : Nat), gs[a]? = some g → g < wr.heap.size := fun a g ha => (h.el a g ha).1.lt
    split at hi <;> split at hj
    · exact h.nd i j g hi hj
    · rename_i h1 h2
      rcases Nat.lt_or_ge (j - gs.length) 1 with h3 | h3
      · rw [show j - gs.length = 0 by omega] at hj
        simp at hj
        have := hlt i g hi
        omega
      · rw [List.getElem?_eq_none (by simpa using h3)] at hj; simp at hj
    · rename_i h1 h2
      rcases Nat.lt_or_ge (i - gs.length) 1 with h3 | h3
      · rw [show i - gs.length = 0 by omega] at hi
        simp at hi
        have := hlt j g hj
        omega
      · rw [List.getElem?_eq_none (by simpa using h3)] at hi; simp at hi
    · rename_i h1 h2
      rcases Nat.lt_or_ge (j - gs.length) 1 with h3 | h3
      · rcases Nat.lt_or_ge (i - gs.length) 1 with h4 | h4
        · omega
        · rw [List.getElem?_eq_none (by simpa using h4)] at hi; simp at hi
      · rw [List.getElem?_eq_none (by simpa using h3)] at hj; simp at hj
  bel := ((h.bel.alloc h.bel.size _).alloc (by have := h.bel.size; simp; omega) o).grown hgr (by have := h.bel.size; simp; omega) (fun k e => (h.own.lt k e).1)
/-- a row, by its place -/
theorem ClInv.at_ {w wr : World} {o cap : Nat} {gs : List Nat} {n a : Nat} {R : Nat → Nat → Bool} (h : ClInv w wr (.slice (some ⟨o, 0, none⟩) n cap) gs n R) (hl : gs.length = n) (ha : a < n) :
    ∃ g, gs[a]? = some g ∧ wr.cell? ⟨o, a, none⟩ = some (.slice (some ⟨g, 0, none⟩) n n) ∧ ∀ j, j < n → wr.cell? ⟨g, j, none⟩ = some (.bool (R a j)) := by
  obtain ⟨g, hg⟩ : ∃ g, gs[a]? = some g := ⟨_, List.getElem?_eq_getElem (by omega)⟩
  refine ⟨g, hg, ?_, fun j hj => (h.el a g hg).1.cell (bcells_at _ hj)⟩
  have ho := h.own
  rw [hl] at ho
  rw [ho.cellAt a (by omega)]
  unfold sv
  rw [List.getElem?_map, hg]; rfl

namespace Kl
/-- the closure behind rows i and j elements of the next, by way of k -/
def curR (R : Nat → Nat → Bool) (k i j : Nat) : Nat → Nat → Bool := fun i' j' => if i' < i then step R k i' j' else if i' = i ∧ j' < j then step R k i' j' else R i' j'
theorem curR_row (R : Nat → Nat → Bool) (k i j : Nat) : curR R k i j k j = R k j := by
  unfold curR
  split
  · exact step_row R k j
  · rw [if_neg (by omega)]
theorem curR_col (R : Nat → Nat → Bool) (k i j : Nat) : curR R k i j i k = R i k := by
  unfold curR
  rw [if_neg (by omega)]
  split
  · exact step_col R k i
  · rfl
theorem curR_same {R : Nat → Nat → Bool} {k i j : Nat} (h : (R i k && R k j) = false) (i' j' : Nat) : curR R k i j i' j' = curR R k i (j + 1) i' j' := by
  unfold curR
  by_cases h1 : i' < i
  · rw [if_pos h1, if_pos h1]
  · rw [if_neg h1, if_neg h1]
    by_cases h2 : i' = i ∧ j' < j
    · rw [if_pos h2, if_pos (by omega)]
    · rw [if_neg h2]
      by_cases h3 : i' = i ∧ j' < j + 1
      · rw [if_pos h3]
        obtain rfl : j' = j := by omega
        obtain rfl := h3.1
        unfold step; rw [h, Bool.or_false]
      · rw [if_neg h3]
theorem curR_hit {R : Nat → Nat → Bool} {k i j : Nat} (h : (R i k && R k j) = true) (i' j' : Nat) : (if i' = i ∧ j' = j then true else curR R k i j i' j') = curR R k i (j + 1) i' j' := by
  by_cases h0 : i' = i ∧ j' = j
  · rw [if_pos h0]
    obtain ⟨rfl, rfl⟩ := h0
    unfold curR
    rw [if_neg (Nat.lt_irrefl _), if_pos (by omega)]
    unfold step; rw [h, Bool.or_true]
  · rw [if_neg h0]
    unfold curR
    by_cases h1 : i' < i
    · rw [if_pos h1, if_pos h1]
    · rw [if_neg h1, if_neg h1]
      by_cases h2 : i' = i ∧ j' < j
      · rw [if_pos h2, if_pos (by omega)]
      · rw [if_neg h2, if_neg (by omega)]
end Kl

set_option maxRecDepth 100000 in
set_option maxHeartbeats 8000000 in
theorem closed_ok (n : Nat) (hn : n ≤ 12) (hn0 : 0 < n) (A : Option Addr) (c : Nat) (ps : List (Int × Int)) (w : World) (h : Prs w w.heap.size A ps) (hl : ps.length ≤ 1000000) (hin : inP n ps = true) :
    Calls Try.prog 25 #[.int .i64 (n : Int), .slice A ps.length c] w fun e w' => ∃ (o cap : Nat) (gs : List Nat), e = .returned (.slice (some ⟨o, 0, none⟩) n cap) ∧ o < w'.heap.size ∧ gs.length = n ∧ ClInv w w' (.slice (some ⟨o, 0, none⟩) n cap) gs n (Kl.le n ps) := by
  have HIN := Lib.hid hin
  clear hin
  obtain ⟨i0, hi, hz0, hz1, hz2⟩ := info_parts infoSl
  have hmk := makeBools n (by omega)
  go_enter Try.func25, Try.ntmps25
  go_wp2_with fail
  go_loopw [5, 6, 7] (fun v iv _ wr => ∃ (k : Nat) (gs : List Nat), k ≤ n ∧ iv = .int .i64 k ∧ Hid (gs.length = k) ∧ ClInv w wr v gs n (fun i j => i == j)) (fun _ iv _ _ => n - (intOf iv).toNat)
  case atStart =>
    refine ⟨0, [], Nat.zero_le _, rfl, Lib.hid rfl, ?_, fun i g e => by simp at e, fun i j g e => by simp at e, (Below.refl _ _).alloc (Nat.le_refl _) _⟩
    simpa [sv] using World.ownsRow_made (e := 40) (size := 1) (base := w.heap.size) w #[] 0 (Nat.le_refl _) (by unfold maxLen; omega) rfl
  case round =>
    obtain ⟨k, gs, hk, rfl, hgs, I⟩ := hrel
    by_cases hlt : k < n
    · have hrow : Hid ((bcells (fun _ => false) n).set k (.bool true) = bcells (fun j => k == j) n) := Lib.hid (by
        rw [bcells_set]
        refine bcells_congr fun j _ => ?_
        by_cases e : j = k
        · rw [if_pos e, e]; simp
        · rw [if_neg e, show (k == j) = false by simpa using fun q => e q.symm])
      obtain ⟨A', c', rfl⟩ := own_slice I.own
      have ho := I.own
      obtain ⟨S, hS⟩ : ∃ S, Hid (sv n gs = S) := ⟨_, Lib.hid rfl⟩
      rw [hS.out, hgs.out] at ho
      rw [hgs.out]
      have hbk : (bcells (fun _ => false) n)[k]? = some (.bool false) := bcells_at _ hlt
      have hbl : k < (bcells (fun _ => false) n).length := by simp [bcells]; exact hlt
      have hkI : (k : Int) < (n : Int) := by omega
      go_wp2_with (at_builtin; refine wpList_append_own _ rfl _ _ 26 rfl w.heap.size 40 i0 (.slice none 0 0) 1 24 Try.underlying26 hi hz0 hz1 hz2 rfl (by decide) _ _ _ rfl ((ho.alloc _).alloc _) ⟨wr.heap.size + 1, 0, none⟩ 1 1 [.slice (some ⟨wr.heap.size, 0, none⟩) n n] rfl rfl ?c1 ?c2 ?c3 ?c4 ?c5 ?_)
      case c1 =>
        have h1 := cell_one_new (wr.alloc (.cells ((bcells (fun _ => false) n).set k (.bool true)).toArray 4)) (.slice (some ⟨wr.heap.size, 0, none⟩) n n) 40
        rw [World.size_alloc] at h1
        exact h1
      case c2 => intro u hu; simp at hu; subst hu; rfl
      case c3 => unfold maxLen; omega
      case c4 => omega
      case c5 => have := I.bel.size; simp; omega
      intro v' w3 hown' hgrow _
      have I3 : ClInv w w3 v' (gs ++ [wr.heap.size]) n (fun i j => i == j) := by
        refine I.snoc (o := .cells #[.slice (some ⟨wr.heap.size, 0, none⟩) n n] 40) (by rw [hS.out, hgs.out]; exact hown') ?_
        rw [hgs.out, ← hrow.out]
        exact hgrow
      clear hown' hgrow I ho
      go_wp2_with fail
      go_roundw
      case rel => exact ⟨k + 1, _, by omega, by go_num, Lib.hid (by rw [List.length_append, hgs.out]; rfl), I3⟩
      case measure => simp [intOf]; omega
    · obtain rfl : k = n := by omega
      have hform := I.own.form (by rw [hgs.out]; exact hn0)
      rw [hgs.out] at hform
      obtain ⟨o, cap, rfl, ho1, ho2⟩ := hform
      clear hmk ho2
      go_wp2_with fail
      go_loopw [8] (fun iv wr => ∃ q : Nat, q ≤ ps.length ∧ iv = .int .i64 q ∧ ClInv w wr (.slice (some ⟨o, 0, none⟩) k cap) gs k (Kl.base (ps.take q))) (fun iv _ => ps.length - (intOf iv).toNat)
      case atStart => exact ⟨0, Nat.zero_le _, rfl, I.congr hgs.out (fun i j _ _ => by simp [Kl.base])⟩
      case round =>
        clear I
        obtain ⟨q, hq, rfl, I⟩ := hrel
        by_cases hlq : q < ps.length
        · obtain ⟨b, off, x, y, rfl, hb, hcx, hcy, hxy⟩ := (h.below I.bel).at_ hlq
          have hr := List.all_eq_true.1 HIN.out (prAt ps q) (by unfold prAt; rw [List.getD_eq_getElem?_getD, List.getElem?_eq_getElem hlq]; exact List.getElem_mem hlq)
          rw [← hxy.out.1, ← hxy.out.2] at hr
          unfold lvB at hr
          simp only [Bool.and_eq_true, decide_eq_true_eq] at hr
          obtain ⟨i, rfl⟩ := Int.eq_ofNat_of_zero_le hr.1.1
          obtain ⟨j, rfl⟩ := Int.eq_ofNat_of_zero_le hr.2.1
          have hin1 : i < k := by omega
          have hjn1 : j < k := by omega
          obtain ⟨g, hg, hco, hcr⟩ := I.at_ hgs.out hin1
          have hcj := hcr j hjn1
          have hfj := (I.el i g hg).1.frozen j
          have e4 : (i : Int) < (k : Int) := by omega
          have e5 : (j : Int) < (k : Int) := by omega
          have HG := Lib.hid hg
          clear hr hcr hg
          go_wp2_with fail
          go_region
          go_wp2_with fail
          go_roundw
          case rel =>
            refine ⟨q + 1, by omega, by go_num, ?_⟩
            refine (I.drew.store (j := j) HG.out).congr hgs.out (fun i' j' _ _ => ?_)
            rw [base_take hlq, ← hxy.out.1, ← hxy.out.2]
            by_cases e : i' = i ∧ j' = j
            · rw [if_pos e, e.1, e.2]; simp
            · rw [if_neg e]
              have : (((i : Nat) : Int) == (i' : Int) && ((j : Nat) : Int) == (j' : Int)) = false := by
                rw [Bool.eq_false_iff]
                intro hh
                simp only [Bool.and_eq_true, beq_iff_eq] at hh
                exact e ⟨by omega, by omega⟩
              rw [this, Bool.or_false]
          case measure => simp [intOf]; omega
        · obtain rfl : q = ps.length := by omega
          rw [List.take_length] at I
          go_wp2_with fail
          go_loopw [9, 10, 11] (fun iv _ _ wr => ∃ v : Nat, v ≤ k ∧ iv = .int .i64 v ∧ ClInv w wr (.slice (some ⟨o, 0, none⟩) k cap) gs k (Kl.clo (Kl.base ps) v)) (fun iv _ _ _ => k - (intOf iv).toNat)
          case atStart => exact ⟨0, Nat.zero_le _, rfl, I⟩
          case round =>
            clear I
            obtain ⟨v, hv, rfl, I⟩ := hrel
            obtain ⟨R, hR⟩ : ∃ R, Hid (Kl.clo (Kl.base ps) v = R) := ⟨_, Lib.hid rfl⟩
            have hR1 : Hid (Kl.clo (Kl.base ps) (v + 1) = Kl.step R v) := Lib.hid (by rw [← hR.out]; rfl)
            rw [hR.out] at I
            by_cases hvk : v < k
            · go_wp2_with fail
              go_loopw [10, 11] (fun iv _ wr => ∃ i : Nat, i ≤ k ∧ iv = .int .i64 i ∧ ClInv w wr (.slice (some ⟨o, 0, none⟩) k cap) gs k (Kl.curR R v i 0)) (fun iv _ _ => k - (intOf iv).toNat)
              case atStart => exact ⟨0, Nat.zero_le _, rfl, I.congr hgs.out (fun i j _ _ => by unfold Kl.curR; rw [if_neg (Nat.not_lt_zero _), if_neg (by omega)])⟩
              case round =>
                clear I
                obtain ⟨i, hi1, rfl, I⟩ := hrel
                by_cases hik : i < k
                · go_wp2_with fail
                  go_loopw [11] (fun iv wr => ∃ j : Nat, j ≤ k ∧ iv = .int .i64 j ∧ ClInv w wr (.slice (some ⟨o, 0, none⟩) k cap) gs k (Kl.curR R v i j)) (fun iv _ => k - (intOf iv).toNat)
                  case atStart => exact ⟨0, Nat.zero_le _, rfl, I⟩
                  case round =>
                    clear I
                    obtain ⟨j, hj1, rfl, I⟩ := hrel
                    by_cases hjk : j < k
                    · obtain ⟨g, hg, hco, hcr⟩ := I.at_ hgs.out hik
                      obtain ⟨g2, hg2, hco2, hcr2⟩ := I.at_ hgs.out hvk
                      have hcv := hcr v hvk
                      have hcj := hcr j hjk
                      have hcj2 := hcr2 j hjk
                      rw [Kl.curR_col] at hcv
                      rw [Kl.curR_row] at hcj2
                      have hfj := (I.el i g hg).1.frozen j
                      have HG := Lib.hid hg
                      have e4 : (i : Int) < (k : Int) := by omega
                      have e5 : (j : Int) < (k : Int) := by omega
                      have e6 : (v : Int) < (k : Int) := by omega
                      clear hcr hcr2 hg hg2
                      cases h1 : R i v with
                      | false =>
                        have HS := Lib.hid (I.congr hgs.out (fun i' j' _ _ => Kl.curR_same (R := R) (k := v) (i := i) (j := j) (by rw [h1]; rfl) i' j'))
                        rw [h1] at hcv
                        clear h1
                        go_wp2_with fail
                        go_roundw
                        case rel => exact ⟨j + 1, by omega, by go_num, HS.out⟩
                        case measure => simp [intOf]; omega
                      | true =>
                        cases h2 : R v j with
                        | false =>
                          have HS := Lib.hid (I.congr hgs.out (fun i' j' _ _ => Kl.curR_same (R := R) (k := v) (i := i) (j := j) (by rw [h2]; simp) i' j'))
                          rw [h1] at hcv
                          rw [h2] at hcj2
                          clear h1 h2
                          go_wp2_with fail
                          go_roundw
                          case rel => exact ⟨j + 1, by omega, by go_num, HS.out⟩
                          case measure => simp [intOf]; omega
                        | true =>
                          have HS := Lib.hid ((I.store (j := j) HG.out).congr hgs.out (fun i' j' _ _ => Kl.curR_hit (R := R) (k := v) (i := i) (j := j) (by rw [h1, h2]; rfl) i' j'))
                          rw [h1] at hcv
                          rw [h2] at hcj2
                          clear h1 h2
                          go_wp2_with fail
                          go_roundw
                          case rel => exact ⟨j + 1, by omega, by go_num, HS.out⟩
                          case measure => simp [intOf]; omega
                    · obtain rfl : j = k := by omega
                      go_wp2_with fail
                      go_roundw
                      case rel => exact ⟨i + 1, by omega, by go_num, I.congr hgs.out (fun i' j' _ hj' => by
                        unfold Kl.curR
                        by_cases e1 : i' < i
                        · rw [if_pos e1, if_pos (by omega)]
                        · rw [if_neg e1]
                          by_cases e2 : i' = i
                          · rw [if_pos ⟨e2, hj'⟩, if_pos (by omega)]
                          · rw [if_neg (by omega), if_neg (by omega), if_neg (by omega)])⟩
                      case measure => simp [intOf]; omega
                · obtain rfl : i = k := by omega
                  go_wp2_with fail
                  go_roundw
                  case rel => exact ⟨v + 1, by omega, by go_num, by
                    rw [hR1.out]
                    exact I.congr hgs.out (fun i' j' hi' _ => by unfold Kl.curR; rw [if_pos hi'])⟩
                  case measure => simp [intOf]; omega
            · obtain rfl : v = k := by omega
              have hlt2 : o < wr.heap.size := by
                have := I.own.lt o rfl
                exact this.2
              rw [← hR.out] at I
              go_wp2_with fail
              go_ret
              exact ⟨o, cap, gs, rfl, hlt2, hgs.out, I⟩
end Go.Proofs.Ytcckocaaoklibaa
