/- Walks: strings.FieldsSeq at texts of letters and spaces. -/
import Derived.RangeFuncNested
import Derived.RangeFuncBound
import Derived.RangeFuncCalls
import Derived.RangeFuncLeaves
import Derived.RangeFuncFrom
import Derived.Shelf.Abstract
import Derived.Shelf.RegionOpen
import Derived.OwnWalkIn
import Derived.TacticsInMore
import Derived.LoopNIn
import Derived.LoopIn
import Derived.Test.YtlifnabeilnblaaGreatDoorW1
namespace Go.Proofs.YtlifnabeilnblaaGreatDoor
open Go.RowKit Go.Shelf
attribute [local go_sem] Oper.semAt_some
set_option linter.unusedVariables false

/-- what FieldsSeq has handed on when k bytes are read, and where a word has begun -/
def sc (s : ByteArray) : Nat → List ByteArray × Int
  | 0 => ([], -1)
  | k + 1 => if (bs s).getD k 0 == 32 then (if 0 ≤ (sc s k).2 then ((sc s k).1 ++ [s.extract (sc s k).2.toNat k], -1) else sc s k) else (if (sc s k).2 < 0 then ((sc s k).1, (k : Int)) else sc s k)
/-- the words of a text -/
def fieldsS (s : ByteArray) : List ByteArray := if 0 ≤ (sc s s.size).2 then (sc s s.size).1 ++ [s.extract (sc s s.size).2.toNat s.size] else (sc s s.size).1
theorem sc_le (s : ByteArray) (k : Nat) : (sc s k).2 ≤ k ∧ -1 ≤ (sc s k).2 := by
  induction k with
  | zero => exact ⟨by show (-1 : Int) ≤ 0; decide, by show (-1 : Int) ≤ -1; decide⟩
  | succ k ih =>
    unfold sc
    (repeat' split) <;> (constructor <;> (try dsimp only) <;> omega)
theorem sc_sp (s : ByteArray) {k : Nat} (hk : k < s.size) (h : s[k] = 32) : sc s (k + 1) = if 0 ≤ (sc s k).2 then ((sc s k).1 ++ [s.extract (sc s k).2.toNat k], -1) else sc s k := by
  have e : (bs s).getD k 0 = 32 := by rw [List.getD_eq_getElem?_getD, List.getElem?_eq_getElem (by rw [bs_length]; exact hk)]; exact h
  conv => lhs; unfold sc
  rw [e]; rfl
theorem sc_let (s : ByteArray) {k : Nat} (hk : k < s.size) (h : s[k] ≠ 32) : sc s (k + 1) = if (sc s k).2 < 0 then ((sc s k).1, (k : Int)) else sc s k := by
  have e : (bs s).getD k 0 = s[k] := by rw [List.getD_eq_getElem?_getD, List.getElem?_eq_getElem (by rw [bs_length]; exact hk)]; rfl
  conv => lhs; unfold sc
  rw [e, if_neg (by simpa using h)]
theorem sc_pre (s : ByteArray) {j k : Nat} (h : j ≤ k) : (sc s j).1 <+: (sc s k).1 := by
  induction k with
  | zero => obtain rfl : j = 0 := by omega
            exact List.prefix_refl _
  | succ k ih =>
    by_cases e : j = k + 1
    · subst e; exact List.prefix_refl _
    · have h1 := ih (by omega)
      conv => rhs; unfold sc
      (repeat' split) <;> first | exact h1 | exact h1.trans (List.prefix_append _ _)
theorem sc_all (s : ByteArray) {k : Nat} (h : k ≤ s.size) : (sc s k).1 <+: fieldsS s := by
  have h1 := sc_pre s h
  unfold fieldsS
  split
  · exact h1.trans (List.prefix_append _ _)
  · exact h1
/-- letters and spaces alone -/
def plainS (s : ByteArray) : Bool := decide (s.size ≤ 1000) && (bs s).all fun c => c == 32 || (decide (97 ≤ c.toNat) && decide (c.toNat ≤ 122))
/-- the table of spaces, where the program's variable lies -/
structure SpT (w : World) : Prop where
  cell : ∀ c : Nat, (c = 32 ∨ (97 ≤ c ∧ c ≤ 122)) → w.cell? ⟨6, c, none⟩ = some (.int .u8 (if c = 32 then 1 else 0))
  lt : 6 < w.heap.size
theorem SpT.below {w w' : World} (h : SpT w) (hb : Below w.heap.size w w') : SpT w' :=
  ⟨fun c hc => (hb.cell (p := ⟨6, c, none⟩) h.lt).trans (h.cell c hc), Nat.lt_of_lt_of_le h.lt hb.size⟩

set_option maxRecDepth 100000 in
set_option maxHeartbeats 4000000 in
theorem fseq1_in (F : Fence) (n : Nat) (h80 : F.fn 127) (hro : F.round = none) (hn : 1 ≤ n) (l Bn n₀ : Nat) (s : ByteArray) (hp : plainS s = true) (J Jx : List ByteArray → World → Prop)
    (hY : ∀ pre x W, J pre W → pre.length < (fieldsS s).length → YieldAt F (n - 1) Tryz.prog l #[.string x] W fun e W' =>
      (e = .returned (.bool true) ∧ J (pre ++ [x]) W' ∧ Below n₀ W W') ∨ (e = .returned (.bool false) ∧ Jx (pre ++ [x]) W'))
    (W : World) (hB0 : Bn < n₀) (hBn : W.cell? ⟨Bn, 0, none⟩ = some (.string s)) (hg : 6 < n₀)
    (hT : ∀ c : Nat, (c = 32 ∨ (97 ≤ c ∧ c ≤ 122)) → W.cell? ⟨6, c, none⟩ = some (.int .u8 (if c = 32 then 1 else 0))) (h0 : J [] W) :
    CallsIn F n Tryz.prog 127 #[.func (.yield l) #[] #[], .pointer (some ⟨Bn, 0, none⟩)] W fun e W' => (∃ v, e = .returned v) ∧
      ((∃ ys, ys = fieldsS s ∧ J ys W') ∨ (∃ pre, pre <+: fieldsS s ∧ Jx pre W')) := by
  have hsz : s.size ≤ 1000 := by unfold plainS at hp; simp only [Bool.and_eq_true, decide_eq_true_eq] at hp; exact hp.1
  have hal : Hid (∀ k, (hk : k < s.size) → (s[k] = 32 ∨ (97 ≤ s[k].toNat ∧ s[k].toNat ≤ 122))) := Lib.hid fun k hk => by
    unfold plainS at hp
    simp only [Bool.and_eq_true, decide_eq_true_eq, List.all_eq_true, Bool.or_eq_true, beq_iff_eq] at hp
    exact hp.2 s[k] (by rw [← get_at hk]; exact List.getElem_mem _)
  have HT := Lib.hid hT
  have HY := Lib.hid hY
  clear hp hT hY
  refine callsIn_of_wp Tryz.func127 rfl h80 ?_ hro
  simp only [Tryz.ntmps127, List.size_toArray, List.length_cons, List.length_nil, Nat.reduceAdd, Nat.reduceSub, Array.replicate_succ, Array.replicate_zero, List.push_toArray, List.append_toArray, List.nil_append, List.cons_append]
  gi_wp2
  gi_loopw [3, 4] (fun st i wr => ∃ k : Nat, k ≤ s.size ∧ i = .int .i64 (k : Int) ∧ st = .int .i64 (sc s k).2 ∧ wr.cell? ⟨Bn, 0, none⟩ = some (.string s) ∧ Hid (∀ c : Nat, (c = 32 ∨ (97 ≤ c ∧ c ≤ 122)) → wr.cell? ⟨6, c, none⟩ = some (.int .u8 (if c = 32 then 1 else 0))) ∧ Hid (J (sc s k).1 wr))
    (fun _ i _ => s.size - (intOf i).toNat)
  case atStart => exact ⟨0, Nat.zero_le _, rfl, rfl, hBn, HT, Lib.hid h0⟩
  case round =>
    clear hBn HT h0
    obtain ⟨k, hk, rfl, rfl, hBn, HT, hJ⟩ := hrel
    have hle := sc_le s k
    by_cases hlt : k < s.size
    · have hltI : (k : Int) < (s.size : Int) := by omega
      by_cases hc : s[k] = 32
      · have eI : ((s[k].toNat : Nat) : Int) = 32 := by rw [hc]; rfl
        have hcell : wr.cell? ⟨6, 32, none⟩ = some (.int .u8 1) := HT.out 32 (.inl rfl)
        have hs1 := sc_sp s hlt hc
        clear hc
        by_cases hst : 0 ≤ (sc s k).2
        · rw [if_pos hst] at hs1
          have HS := Lib.hid hs1
          have hlen : (sc s k).1.length < (fieldsS s).length := by
            have := (sc_all s (k := k + 1) (by omega)).length_le
            rw [hs1, List.length_append] at this
            simp at this; omega
          obtain ⟨fn, tmps, assign, body, hy, hR⟩ := HY.out (sc s k).1 (s.extract (sc s k).2.toNat k) wr hJ.out hlen
          clear hs1 hlen
          gi_wp2
          refine hR.mono ?_
          rintro e W3 (⟨rfl, hJ3, hk3⟩ | ⟨rfl, hJx3⟩)
          · have hB3 : W3.cell? ⟨Bn, 0, none⟩ = some (.string s) := (hk3.cell (p := ⟨Bn, 0, none⟩) hB0).trans hBn
            have HT3 : Hid (∀ c : Nat, (c = 32 ∨ (97 ≤ c ∧ c ≤ 122)) → W3.cell? ⟨6, c, none⟩ = some (.int .u8 (if c = 32 then 1 else 0))) := Lib.hid fun c hc => (hk3.cell (p := ⟨6, c, none⟩) hg).trans (HT.out c hc)
            have HJ3 := Lib.hid hJ3
            clear hJ3
            gi_wp2
            go_roundw
            case rel => exact ⟨k + 1, by omega, by go_num, by rw [HS.out], hB3, HT3, by rw [HS.out]; exact HJ3⟩
            case measure => simp [intOf]; omega
          · have hpre : (sc s k).1 ++ [s.extract (sc s k).2.toNat k] <+: fieldsS s := by
              have := sc_all s (k := k + 1) (by omega)
              rw [HS.out] at this
              exact this
            gi_wp2
            refine bodyPost_ret (results_none rfl _ _ _) rfl ?_
            exact ⟨⟨_, rfl⟩, .inr ⟨_, hpre, hJx3⟩⟩
        · have hst' : (sc s k).2 = -1 := by omega
          rw [if_neg hst] at hs1
          have HS := Lib.hid hs1
          clear hs1
          gi_wp2
          go_roundw
          case rel => exact ⟨k + 1, by omega, by go_num, by rw [HS.out, hst'], hBn, HT, by rw [HS.out]; exact hJ⟩
          case measure => simp [intOf]; omega
      · have hr : 97 ≤ s[k].toNat ∧ s[k].toNat ≤ 122 := (hal.out k hlt).resolve_left hc
        have hne : s[k].toNat ≠ 32 := by omega
        have hcell : wr.cell? ⟨6, s[k].toNat, none⟩ = some (.int .u8 0) := by
          have := HT.out s[k].toNat (.inr hr)
          rwa [if_neg hne] at this
        have h1 : ((s[k].toNat : Nat) : Int) < 256 := by omega
        have h2 : s[k].toNat < 256 := by omega
        have h3 : ¬ (128 : Int) ≤ ((s[k].toNat : Nat) : Int) := by omega
        have hs1 := sc_let s hlt hc
        clear hc hne
        by_cases hst : (sc s k).2 < 0
        · rw [if_pos hst] at hs1
          have HS := Lib.hid hs1
          clear hs1
          gi_wp2
          go_roundw
          case rel => exact ⟨k + 1, by omega, by go_num, by rw [HS.out], hBn, HT, by rw [HS.out]; exact hJ⟩
          case measure => simp [intOf]; omega
        · rw [if_neg hst] at hs1
          have HS := Lib.hid hs1
          clear hs1
          gi_wp2
          go_roundw
          case rel => exact ⟨k + 1, by omega, by go_num, by rw [HS.out], hBn, HT, by rw [HS.out]; exact hJ⟩
          case measure => simp [intOf]; omega
    · obtain rfl : k = s.size := by omega
      by_cases hst : 0 ≤ (sc s s.size).2
      · have HF : Hid (fieldsS s = (sc s s.size).1 ++ [s.extract (sc s s.size).2.toNat s.size]) := Lib.hid (by unfold fieldsS; rw [if_pos hst])
        obtain ⟨fn, tmps, assign, body, hy, hR⟩ := HY.out (sc s s.size).1 (s.extract (sc s s.size).2.toNat s.size) wr hJ.out (by rw [HF.out]; simp)
        gi_wp2
        refine hR.mono ?_
        rintro e W3 (⟨rfl, hJ3, hk3⟩ | ⟨rfl, hJx3⟩)
        · gi_wp2
          go_end0
          exact ⟨⟨_, rfl⟩, .inl ⟨_, HF.out.symm, hJ3⟩⟩
        · gi_wp2
          go_end0
          exact ⟨⟨_, rfl⟩, .inr ⟨_, by rw [HF.out]; exact List.prefix_refl _, hJx3⟩⟩
      · have HF : Hid (fieldsS s = (sc s s.size).1) := Lib.hid (by unfold fieldsS; rw [if_neg hst])
        gi_wp2
        go_end0
        exact ⟨⟨_, rfl⟩, .inl (by rw [HF.out]; exact hJ.out)⟩

set_option maxHeartbeats 1000000 in
/-- FieldsSeq(s): the text is boxed; the function value captures the box -/
theorem fseq_in (F : Fence) (n : Nat) (h56 : F.fn 114) (hro : F.round = none) (s : ByteArray) (w : World) :
    CallsIn F n Tryz.prog 114 #[.string s] w fun e w' => e = .returned (.func (.func 127) #[] #[.pointer (some ⟨w.heap.size, 0, none⟩)]) ∧ w' = w.alloc (.cells #[.string s] 9) := by
  refine callsIn_of_wp Tryz.func114 rfl h56 ?_ hro
  simp only [Tryz.ntmps114, List.size_toArray, List.length_cons, List.length_nil, Nat.reduceAdd, Nat.reduceSub, Array.replicate_succ, Array.replicate_zero, List.push_toArray, List.append_toArray, List.nil_append, List.cons_append]
  gi_wp2
  go_ret
  exact ⟨rfl, rfl⟩

theorem fseq_stops (F : Fence) (n : Nat) (h80 : F.fn 127) (hro : F.round = none) (hn : 1 ≤ n) (Bn n₀ : Nat) (s : ByteArray) (hp : plainS s = true) (w : World) (hBn : Bn < n₀) (hn₀ : n₀ ≤ w.heap.size) (hg : 6 < n₀)
    (hc : w.cell? ⟨Bn, 0, none⟩ = some (.string s)) (hT : SpT w) :
    SeqStopsK F n Tryz.prog 127 #[.pointer (some ⟨Bn, 0, none⟩)] (fun x : ByteArray => #[Value.string x]) (Below n₀) (fun ys => ys = fieldsS s) (fun pre => pre <+: fieldsS s) (fieldsS s).length w := fun l J Jx W hW _ _ hY h0 =>
  fseq1_in F n h80 hro hn l Bn n₀ s hp J Jx hY W hBn ((hW.cell (p := ⟨Bn, 0, none⟩) (Nat.lt_of_lt_of_le hBn hn₀)).trans hc) hg (fun c h => (hW.cell (p := ⟨6, c, none⟩) hT.lt).trans (hT.cell c h)) h0
end Go.Proofs.YtlifnabeilnblaaGreatDoor
