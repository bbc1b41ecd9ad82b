/- Walks: the reference's Make. -/
import Derived.Test.YtckenemkfegopaaDoorWe
namespace Go.Proofs.YtckenemkfegopaaDoor
open Go.RowKit
set_option linter.unusedVariables false

/-- the first k words of the set of the i below n with f i, as cells -/
def wordCells (n : Nat) (f : Nat → Bool) (k : Nat) : List Value := ((Kb.mkWords n f).take k).map fun (x : Nat) => Value.int .u64 (x : Int)
/-- the bits of word k -/
def wbit (n : Nat) (f : Nat → Bool) (k i : Nat) : Bool := decide (64 * k + i < n) && f (64 * k + i)
theorem mkWords_getD (n : Nat) (f : Nat → Bool) (k : Nat) (hk : k < Kb.nw n) : (Kb.mkWords n f)[k]? = some (Kb.wordTo (wbit n f k) 64) := by
  unfold Kb.mkWords
  rw [List.getElem?_map, List.getElem?_range hk]; rfl
theorem wordCells_length (n : Nat) (f : Nat → Bool) (k : Nat) (hk : k ≤ Kb.nw n) : (wordCells n f k).length = k := by
  unfold wordCells; rw [List.length_map, List.length_take, Kb.mkWords_length]; omega
theorem wordCells_succ (n : Nat) (f : Nat → Bool) (k : Nat) (hk : k < Kb.nw n) : wordCells n f (k + 1) = wordCells n f k ++ [.int .u64 ((Kb.wordTo (wbit n f k) 64 : Nat) : Int)] := by
  unfold wordCells
  have h := mkWords_getD n f k hk
  obtain ⟨hl, he⟩ := List.getElem?_eq_some_iff.1 h
  rw [List.take_succ_eq_append_getElem hl, List.map_append, he]; rfl
theorem wordTo_stop (g : Nat → Bool) (i m : Nat) (h : i ≤ m) (hg : ∀ j, i ≤ j → g j = false) : Kb.wordTo g m = Kb.wordTo g i := by
  induction m with
  | zero => obtain rfl : i = 0 := by omega
            rfl
  | succ m ih =>
    by_cases e : i = m + 1
    · rw [e]
    · rw [Kb.wordTo, hg m (by omega), ih (by omega)]; simp

/-- Make's world in the outer loop -/
structure MkInv (w wr : World) (n : Nat) (v : Value) (k : Nat) (f : Nat → Bool) : Prop where
  t2 : Two wr w.heap.size (.int .i64 0) (.slice none 0 0)
  t3 : Two wr (w.heap.size + 1) (.int .i64 (n : Int)) v
  own : wr.ownsRow (w.heap.size + 2) 57 1 v k (wordCells n f k)
  hz : w.heap.size + 2 ≤ wr.heap.size
  bel : Below w.heap.size w wr
theorem MkInv.grown {w wr w3 : World} {n : Nat} {v v' : Value} {k : Nat} {f : Nat → Bool} {o : Obj} (h : MkInv w wr n v k f) (hk : k < Kb.nw n)
    (ho : w3.ownsRow (w.heap.size + 2) 57 1 v' (k + 1) (wordCells n f k ++ [.int .u64 ((Kb.wordTo (wbit n f k) 64 : Nat) : Int)])) (hg : (wr.alloc o).grownBy w3 v.ownBlock) :
    Two w3 w.heap.size (.int .i64 0) (.slice none 0 0) ∧ Two w3 (w.heap.size + 1) (.int .i64 (n : Int)) v ∧ w3.ownsRow (w.heap.size + 2) 57 1 v' (k + 1) (wordCells n f (k + 1)) ∧ w.heap.size + 2 ≤ w3.heap.size ∧ Below w.heap.size w w3 := by
  refine ⟨?_, ?_, by rw [wordCells_succ n f k hk]; exact ho, ?_, ?_⟩
  · obtain ⟨T, hT⟩ := (h.t2.alloc o).blk
    exact ⟨T, (hg.block _ (h.t2.alloc o).lt (fun e => by have := (h.own.lt _ e.symm).1; omega)).trans hT⟩
  · obtain ⟨T, hT⟩ := (h.t3.alloc o).blk
    exact ⟨T, (hg.block _ (h.t3.alloc o).lt (fun e => by have := (h.own.lt _ e.symm).1; omega)).trans hT⟩
  · have := hg.size; have := h.hz; simp at *; omega
  · exact (h.bel.alloc (by have := h.hz; omega) o).grown hg (by have := h.hz; simp; omega) (fun k e => by have := (h.own.lt k e).1; omega)
/-- the second value of a block, stored -/
theorem Two.set1 {w : World} {b : Nat} {x y : Value} (h : Two w b x y) (v : Value) : Two (w.setCell ⟨b, 1, none⟩ v) b x v := by
  obtain ⟨T, h⟩ := h.blk
  exact ⟨T, by simp [World.setCell, Array.getElem?_modify, h]⟩

/-- a flag, by its place -/
theorem bcell_at {w : World} {B n : Nat} {A : Option Addr} {f : Nat → Bool} {k : Nat} (h : Row w B A (bcells f n)) (hk : k < n) :
    ∃ b off, A = some ⟨b, off, none⟩ ∧ b < B ∧ w.cell? ⟨b, off + k, none⟩ = some (.bool (f k)) := by
  obtain ⟨b, off, hA, hb, hc⟩ := h.cells (by rw [bcells_length]; omega)
  refine ⟨b, off, hA, hb, hc k _ ?_⟩
  unfold bcells
  rw [List.getElem?_map, List.getElem?_range hk]; rfl

/-- a set, alone -/
def SetOne (n : Nat) (ws : List Nat) (w : World) (e : Ending) (w' : World) : Prop :=
  ∃ A c, e = .returned (setV n A ws.length c) ∧ Words w' w'.heap.size A ws ∧ Below w.heap.size w w'

theorem mk_store {w w3 : World} {n k c : Nat} {A A' : Option Addr} {m c' : Nat} {f : Nat → Bool} (g2 : Two w3 w.heap.size (.int .i64 0) (.slice none 0 0)) (g3 : Two w3 (w.heap.size + 1) (.int .i64 (n : Int)) (.slice A m c))
    (g4 : w3.ownsRow (w.heap.size + 2) 57 1 (.slice A' (k + 1) c') (k + 1) (wordCells n f (k + 1))) (g5 : w.heap.size + 2 ≤ w3.heap.size) (g6 : Below w.heap.size w w3) :
    MkInv w (w3.setCell ⟨w.heap.size + 1, 1, none⟩ (.slice A' (k + 1) c')) n (.slice A' (k + 1) c') (k + 1) f where
  t2 := g2.far (by simp) _
  t3 := g3.set1 _
  own := g4.kept (row := some (w.heap.size + 1)) ⟨rfl, rfl, rfl, by simp [World.setCell], fun j _ hj => Below.heap_setCell _ _ _ _ (fun e => hj (by simp [e]))⟩ (by
    by_cases e : (Value.slice A' (k + 1) c').ownBlock = none
    · exact .inl e
    · right; intro e2; have := (g4.lt _ e2).1; omega)
  hz := by simp [World.setCell]; exact g5
  bel := g6.setCell (by simp) _

set_option maxRecDepth 100000 in
set_option maxHeartbeats 2000000 in
theorem make_ok (n : Nat) (A : Option Addr) (c : Nat) (f : Nat → Bool) (w : World) (h : Row w w.heap.size A (bcells f n)) (hn : n ≤ 4096) :
    Calls Tryd.prog 136 #[.slice A n c] w (SetOne n (Kb.mkWords n f) w) := by
  obtain ⟨i0, hi, hz0, hz1, hz2⟩ := info_parts infoU64
  go_enter Tryd.func136, Tryd.ntmps136
  go_wp2_with fail
  have hinv : MkInv w ((w.alloc (.cells #[.int .i64 0, .slice none 0 0] 46)).alloc (.cells #[.int .i64 (n : Int), .slice none 0 0] 46)) n (.slice none 0 0) 0 f :=
    ⟨(Two.new_ _ _ _ _).alloc _, by simpa using Two.new_ (w.alloc (.cells #[.int .i64 0, .slice none 0 0] 46)) (.int .i64 (n : Int)) (.slice none 0 0) 46, by simpa [wordCells] using World.ownsRow_nil _ (w.heap.size + 2) 57 1, by simp, (by repeat (first | exact Below.refl _ _ | refine bDrew ?_ _ | refine Below.drew ?_ | refine Below.alloc ?_ (by simp) _ | refine Below.setCell ?_ (by simp) _))⟩
  go_loopw [4] (fun kv wr => ∃ (k : Nat) (v : Value), k ≤ Kb.nw n ∧ kv = .int .i64 k ∧ MkInv w wr n v k f) (fun kv _ => Kb.nw n - (intOf kv).toNat)
  case atStart => exact ⟨0, _, Nat.zero_le _, rfl, hinv⟩
  case round =>
    obtain ⟨k, v, hk, rfl, hinv⟩ := hrel
    obtain ⟨Av, cv, hv⟩ := own_slice hinv.own
    subst hv
    have d10 := hinv.t3.c0
    have d11 := hinv.t3.c1
    have e10 := hinv.t2.c0
    have e11 := hinv.t2.c1
    have fe0 := hinv.t2.fr 0
    have fe1 := hinv.t2.fr 1
    have fd1 := hinv.t3.fr 1
    obtain ⟨wo, rfl⟩ : ∃ wo : World, wo = wr := ⟨_, rfl⟩
    by_cases hlt : k < Kb.nw n
    · have hlt2 : 64 * (k : Int) < (n : Int) := by unfold Kb.nw at hlt; omega
      go_wp2_with fail
      go_loop [5, 6] (fun nv iv => ∃ i y : Nat, i ≤ 64 ∧ iv = .int .i64 i ∧ nv = .int .u64 y ∧ Hid (y = Kb.wordTo (wbit n f k) i)) (fun _ iv => 64 - (intOf iv).toNat)
      case atStart => exact ⟨0, 0, by omega, rfl, rfl, Lib.hid rfl⟩
      case round =>
        obtain ⟨i, y, hi2, rfl, rfl, hy⟩ := hrel
        by_cases hin : i < 64 ∧ 64 * k + i < n
        · obtain ⟨hin1, hin2⟩ := hin
          obtain ⟨b, off, rfl, hbb, hc⟩ := bcell_at (h.below hinv.bel) hin2
          have hn1 : (64 * (k : Int) + (i : Int)).toNat = 64 * k + i := by omega
          have hn2 : 64 * (k : Int) + (i : Int) < (n : Int) := by omega
          cases hfk : f (64 * k + i) with
          | true =>
            have hF := Lib.hid hfk
            rw [hfk] at hc
            clear hfk
            obtain ⟨p, hp⟩ : ∃ p : Nat, Hid (p = 2 ^ ((i : Int)).toNat) := ⟨_, Lib.hid rfl⟩
            have hsum : Hid (y + p = Kb.wordTo (wbit n f k) (i + 1)) := Lib.hid (by
              rw [Kb.wordTo, hy.out, hp.out, Int.toNat_natCast]
              have : wbit n f k i = true := by unfold wbit; rw [hF.out]; simp [hin2]
              rw [this]; simp)
            have hadd : IntKind.u64.wrap ((y : Int) + (p : Int)) = ((y + p : Nat) : Int) := by
              rw [← Int.natCast_add]
              refine wrap_nat ?_
              rw [hsum.out]
              exact Nat.lt_of_lt_of_le (Kb.wordTo_lt _ _) (Nat.pow_le_pow_right (by omega) (by omega))
            go_wp2_with fail
            refine (power_p (i : Int) (by omega) (by omega) p hp _).mono ?_
            rintro e w' ⟨rfl, rfl⟩
            go_wp2_with fail
            go_round
            case rel => exact ⟨i + 1, y + p, by omega, by go_num, rfl, hsum⟩
            case measure => simp [intOf]; omega
          | false =>
            have hF := Lib.hid hfk
            rw [hfk] at hc
            clear hfk
            have hsum : Hid (y = Kb.wordTo (wbit n f k) (i + 1)) := Lib.hid (by
              rw [Kb.wordTo, hy.out]
              have : wbit n f k i = false := by unfold wbit; rw [hF.out]; simp
              rw [this]; simp)
            go_wp2_with fail
            go_round
            case rel => exact ⟨i + 1, y, by omega, by go_num, rfl, hsum⟩
            case measure => simp [intOf]; omega
        · by_cases hi64 : i = 64
          · have hY : Hid (y = Kb.wordTo (wbit n f k) 64) := Lib.hid (by rw [hy.out, hi64])
            have h64 : ¬ (i : Int) < 64 := by omega
            have hI := Lib.hid hi64
            clear hi64 hin
            have K2 := Lib.hid (show ∀ u ∈ [Value.int .u64 (y : Int)], u.oneCell' = true from fun u hu => by simp at hu; subst hu; rfl)
            have K3 := Lib.hid (show k + 1 ≤ maxLen by unfold maxLen; have : Kb.nw n ≤ 64 := (by unfold Kb.nw; omega); omega)
            have K4 := Lib.hid (show (k + 1) * 8 ≤ 140737488355328 by have : Kb.nw n ≤ 64 := (by unfold Kb.nw; omega); omega)
            have K5 := Lib.hid (show w.heap.size + 2 ≤ (wo.alloc (.cells #[.int .u64 (y : Int)] 57)).heap.size by have := hinv.hz; simp; omega)
            go_wp2_with (at_builtin; refine wpList_append_own _ rfl _ _ 44 rfl (w.heap.size + 2) 57 i0 (.int .u64 0) 1 8 Tryd.underlying44 hi hz0 hz1 hz2 rfl (by decide) _ _ _ rfl (hinv.own.alloc _) ⟨wo.heap.size, 0, none⟩ 1 1 [.int .u64 (y : Int)] rfl rfl (cell_one_new _ _ _) K2.out K3.out K4.out K5.out ?_)
            intro v' w3 hown' hgrow _
            obtain ⟨g2, g3, g4, g5, g6⟩ := MkInv.grown hinv hlt (by rw [← hY.out]; exact hown') hgrow
            obtain ⟨A3, c3, hv3⟩ := own_slice g4
            subst hv3
            clear hown' hgrow d10 d11 e10 e11 fe0 fe1 fd1
            have d10 := g3.c0
            have d11 := g3.c1
            have fd1 := g3.fr 1
            go_wp2_with fail
            go_roundw
            case rel => exact ⟨k + 1, _, by omega, by go_num, mk_store g2 g3 g4 g5 g6⟩
            case measure => simp [intOf]; omega
          · have hn2 : ¬ 64 * (k : Int) + (i : Int) < (n : Int) := by omega
            have h64 : (i : Int) < 64 := by omega
            have hY : Hid (y = Kb.wordTo (wbit n f k) 64) := Lib.hid (by
              rw [hy.out, wordTo_stop (wbit n f k) i 64 hi2 ?_]
              intro j hj
              unfold wbit
              have : ¬ 64 * k + j < n := by omega
              simp [this])
            clear hi64 hin
            have K2 := Lib.hid (show ∀ u ∈ [Value.int .u64 (y : Int)], u.oneCell' = true from fun u hu => by simp at hu; subst hu; rfl)
            have K3 := Lib.hid (show k + 1 ≤ maxLen by unfold maxLen; have : Kb.nw n ≤ 64 := (by unfold Kb.nw; omega); omega)
            have K4 := Lib.hid (show (k + 1) * 8 ≤ 140737488355328 by have : Kb.nw n ≤ 64 := (by unfold Kb.nw; omega); omega)
            have K5 := Lib.hid (show w.heap.size + 2 ≤ (wo.alloc (.cells #[.int .u64 (y : Int)] 57)).heap.size by have := hinv.hz; simp; omega)
            go_wp2_with (at_builtin; refine wpList_append_own _ rfl _ _ 44 rfl (w.heap.size + 2) 57 i0 (.int .u64 0) 1 8 Tryd.underlying44 hi hz0 hz1 hz2 rfl (by decide) _ _ _ rfl (hinv.own.alloc _) ⟨wo.heap.size, 0, none⟩ 1 1 [.int .u64 (y : Int)] rfl rfl (cell_one_new _ _ _) K2.out K3.out K4.out K5.out ?_)
            intro v' w3 hown' hgrow _
            obtain ⟨g2, g3, g4, g5, g6⟩ := MkInv.grown hinv hlt (by rw [← hY.out]; exact hown') hgrow
            obtain ⟨A3, c3, hv3⟩ := own_slice g4
            subst hv3
            clear hown' hgrow d10 d11 e10 e11 fe0 fe1 fd1
            have d10 := g3.c0
            have d11 := g3.c1
            have fd1 := g3.fr 1
            go_wp2_with fail
            go_roundw
            case rel => exact ⟨k + 1, _, by omega, by go_num, mk_store g2 g3 g4 g5 g6⟩
            case measure => simp [intOf]; omega
    · obtain rfl : k = Kb.nw n := by omega
      have hlt2 : ¬ 64 * ((Kb.nw n : Nat) : Int) < (n : Int) := by unfold Kb.nw; omega
      have hnw : Kb.nw n ≤ 64 := by unfold Kb.nw; omega
      have ho := hinv.own
      unfold wordCells at ho
      rw [List.take_of_length_le (by rw [Kb.mkWords_length]; exact Nat.le_refl _)] at ho
      obtain ⟨K, hK⟩ : ∃ K, K = Kb.nw n := ⟨_, rfl⟩
      rw [← hK] at hlt2 ho d11 hnw
      rw [← hK]
      have hKK := Lib.hid hK
      clear hK
      go_wp2_with fail
      obtain ⟨r0, r1⟩ := two_set wo (.int .i64 (n : Int)) (.slice Av K cv) e10 e11
      refine bodyPost_ret (v := setV (n : Int) Av K cv) (by simp [results, Tryd.results136, go_sem, r0, r1, setV]) rfl ?_
      have hkeep : ∀ j, wo.heap.size > j → w.heap.size + 2 ≤ j → ((wo.setCell ⟨w.heap.size, 0, none⟩ (.int .i64 (n : Int))).setCell ⟨w.heap.size, 1, none⟩ (.slice Av K cv)).heap[j]? = wo.heap[j]? := fun j _ h2 => by
        rw [Below.heap_setCell _ _ _ _ (by simp; omega), Below.heap_setCell _ _ _ _ (by simp; omega)]
      have ho2 : ((wo.setCell ⟨w.heap.size, 0, none⟩ (.int .i64 (n : Int))).setCell ⟨w.heap.size, 1, none⟩ (.slice Av K cv)).ownsRow (w.heap.size + 2) 57 1 (.slice Av K cv) K ((Kb.mkWords n f).map fun (x : Nat) => Value.int .u64 (x : Int)) := by
        refine ⟨ho.1, ?_⟩
        rcases ho.2 with h2 | ⟨g, cap, cur, e1, hb, hg, rest⟩
        · exact .inl h2
        · exact .inr ⟨g, cap, cur, e1, hb, (hkeep g (Array.getElem?_eq_some_iff.1 hg).1 hb).trans hg, rest⟩
      exact ⟨Av, cv, by rw [Kb.mkWords_length, ← hKK.out], ⟨Row.of_own ho2, Kb.mkWords_lt n f⟩, (hinv.bel.setCell (p := ⟨w.heap.size, 0, none⟩) (Nat.le_refl _) _).setCell (p := ⟨w.heap.size, 1, none⟩) (Nat.le_refl _) _⟩
end Go.Proofs.YtckenemkfegopaaDoor
