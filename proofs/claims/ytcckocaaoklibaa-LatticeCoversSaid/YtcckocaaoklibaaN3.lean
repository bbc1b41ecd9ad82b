/- Walks: closure. -/
import Derived.Test.YtcckocaaoklibaaN2
import Derived.Test.YtcckocaaoklibaaMath
import Derived.RegionTactic
import Derived.ChangeAlike
namespace Go.Proofs.Ytcckocaaoklibaa
open Go.RowKit
set_option linter.unusedVariables false

namespace Kl
/-- the masks of a relation on n levels -/
def rows (n : Nat) (R : Nat → Nat → Bool) : List Nat := (List.range n).map fun a => Kb.wordTo (R a) n
theorem rows_length (n : Nat) (R : Nat → Nat → Bool) : (rows n R).length = n := by simp [rows]
theorem rows_get {n : Nat} (R : Nat → Nat → Bool) {a : Nat} (ha : a < n) : (rows n R).getD a 0 = Kb.wordTo (R a) n := by
  unfold rows; rw [List.getD_eq_getElem?_getD, List.getElem?_map, List.getElem?_range ha]; rfl
theorem word_lt {n : Nat} (hn : n ≤ 64) (f : Nat → Bool) : Kb.wordTo f n < 2 ^ 64 := Nat.lt_of_lt_of_le (Kb.wordTo_lt f n) (Nat.pow_le_pow_right (by decide) hn)
theorem rows_lt {n : Nat} (hn : n ≤ 64) (R : Nat → Nat → Bool) : ∀ x ∈ rows n R, x < 2 ^ 64 := by
  intro x hx
  obtain ⟨a, _, rfl⟩ := List.mem_map.1 hx
  exact word_lt hn _
theorem word_congr {f g : Nat → Bool} {n : Nat} (h : ∀ j, j < n → f j = g j) : Kb.wordTo f n = Kb.wordTo g n := by
  apply Nat.eq_of_testBit_eq
  intro j
  rw [Kb.wordTo_testBit, Kb.wordTo_testBit]
  by_cases hj : j < n
  · rw [h j hj]
  · simp [hj]
theorem word_iff {f g : Nat → Bool} {n : Nat} : Kb.wordTo f n = Kb.wordTo g n ↔ ∀ j, j < n → f j = g j := by
  refine ⟨fun h j hj => ?_, word_congr⟩
  have h1 := congrArg (·.testBit j) h
  simpa [Kb.wordTo_testBit, hj] using h1
theorem word_or (f g : Nat → Bool) (n : Nat) : Kb.wordTo f n ||| Kb.wordTo g n = Kb.wordTo (fun j => f j || g j) n := by
  apply Nat.eq_of_testBit_eq
  intro j
  rw [Nat.testBit_or, Kb.wordTo_testBit, Kb.wordTo_testBit, Kb.wordTo_testBit]
  cases decide (j < n) <;> rfl
theorem word_and (f g : Nat → Bool) (n : Nat) : Kb.wordTo f n &&& Kb.wordTo g n = Kb.wordTo (fun j => f j && g j) n := by
  apply Nat.eq_of_testBit_eq
  intro j
  rw [Nat.testBit_and, Kb.wordTo_testBit, Kb.wordTo_testBit, Kb.wordTo_testBit]
  cases decide (j < n) <;> cases f j <;> rfl
theorem word_pow {n b : Nat} (hb : b < n) : 2 ^ b = Kb.wordTo (fun j => j == b) n := by
  apply Nat.eq_of_testBit_eq
  intro j
  rw [Nat.testBit_two_pow, Kb.wordTo_testBit]
  by_cases e : j = b
  · subst e; simp [hb]
  · have e' : ¬ b = j := fun q => e q.symm
    simp [e, e']
theorem word_zero (n : Nat) : Kb.wordTo (fun _ => false) n = 0 := by
  apply Nat.eq_of_testBit_eq
  intro j
  rw [Kb.wordTo_testBit]; simp
theorem rows_congr {n : Nat} {R S : Nat → Nat → Bool} (h : ∀ i j, i < n → j < n → R i j = S i j) : rows n R = rows n S := by
  unfold rows
  exact List.map_congr_left fun i hi => word_congr fun j hj => h i j (List.mem_range.1 hi) hj
theorem rows_set {n : Nat} {R S : Nat → Nat → Bool} {a v : Nat} (ha : a < n) (h : ∀ i j, i < n → j < n → i ≠ a → S i j = R i j) (hv : v = Kb.wordTo (S a) n) : (rows n R).set a v = rows n S := by
  apply List.ext_getElem?
  intro i
  rw [List.getElem?_set]
  by_cases e : a = i
  · subst e
    rw [if_pos rfl, if_pos (by rw [rows_length]; exact ha)]
    unfold rows
    rw [List.getElem?_map, List.getElem?_range ha, hv]; rfl
  · rw [if_neg e]
    unfold rows
    by_cases hi : i < n
    · rw [List.getElem?_map, List.getElem?_map, List.getElem?_range hi]
      simp only [Option.map_some, Option.some.injEq]
      exact word_congr fun j hj => (h i j hi hj (fun q => e q.symm)).symm
    · rw [List.getElem?_eq_none (by simp; omega), List.getElem?_eq_none (by simp; omega)]
theorem rows_zero (n : Nat) : rows n (fun _ _ => false) = List.replicate n 0 := by
  unfold rows
  rw [show (fun a : Nat => Kb.wordTo ((fun _ _ => false) a) n) = fun _ => 0 from funext fun _ => word_zero n]
  exact List.map_const.trans (by rw [List.length_range])
/-- rows below t have gone through the round of v -/
def stepTo (R : Nat → Nat → Bool) (v t : Nat) : Nat → Nat → Bool := fun i j => if i < t then step R v i j else R i j
theorem stepTo_v (R : Nat → Nat → Bool) (v t j : Nat) : stepTo R v t v j = R v j := by
  unfold stepTo; split
  · exact step_row R v j
  · rfl
end Kl

/-- the pairs, flat -/
def flat (ps : List (Int × Int)) : List Value := ps.flatMap fun p => [.int .i64 p.1, .int .i64 p.2]
theorem flat_at (ps : List (Int × Int)) {k : Nat} (hk : k < ps.length) : (flat ps)[2 * k]? = some (.int .i64 (ps[k]).1) ∧ (flat ps)[2 * k + 1]? = some (.int .i64 (ps[k]).2) := by
  induction ps generalizing k with
  | nil => exact absurd hk (Nat.not_lt_zero _)
  | cons p ps ih =>
    unfold flat
    rw [List.flatMap_cons]
    cases k with
    | zero => exact ⟨rfl, rfl⟩
    | succ k =>
      have := ih (k := k) (by simpa using hk)
      rw [show 2 * (k + 1) = 2 * k + 2 by omega, show 2 * k + 2 + 1 = (2 * k + 1) + 2 by omega]
      exact this
theorem flat_length (ps : List (Int × Int)) : (flat ps).length = 2 * ps.length := by
  induction ps with
  | nil => rfl
  | cons p ps ih => unfold flat at ih ⊢; rw [List.flatMap_cons, List.length_append, ih]; simp; omega
/-- pairs in memory -/
structure Prs (w : World) (B : Nat) (A : Option Addr) (ps : List (Int × Int)) : Prop where
  row : Row w B A (flat ps)
theorem Prs.below {w w' : World} {B : Nat} {A : Option Addr} {ps : List (Int × Int)} (h : Prs w B A ps) (hb : Below B w w') : Prs w' B A ps := ⟨h.row.below hb⟩
theorem Prs.more {w : World} {B B' : Nat} {A : Option Addr} {ps : List (Int × Int)} (h : Prs w B A ps) (hB : B ≤ B') : Prs w B' A ps := ⟨h.row.more hB⟩
theorem Prs.at {w w' : World} {A : Option Addr} {ps : List (Int × Int)} (h : Prs w w.heap.size A ps) (hb : Below w.heap.size w w') : Prs w' w'.heap.size A ps := (h.below hb).more hb.size
/-- the k-th pair -/
def prAt (ps : List (Int × Int)) (k : Nat) : Int × Int := ps.getD k (0, 0)
theorem Prs.at_ {w : World} {B : Nat} {A : Option Addr} {ps : List (Int × Int)} (h : Prs w B A ps) {k : Nat} (hk : k < ps.length) :
    ∃ b off x y, A = some ⟨b, off, none⟩ ∧ b < B ∧ w.cell? ⟨b, off + k * 2, none⟩ = some (.int .i64 x) ∧ w.cell? ⟨b, off + k * 2 + 1, none⟩ = some (.int .i64 y) ∧ Hid (x = (prAt ps k).1 ∧ y = (prAt ps k).2) := by
  obtain ⟨b, off, e, hb, hc⟩ := h.row.cells (by rw [flat_length]; omega)
  have hf := flat_at ps hk
  have e1 : prAt ps k = ps[k] := by unfold prAt; rw [List.getD_eq_getElem?_getD, List.getElem?_eq_getElem hk]; rfl
  exact ⟨b, off, (ps[k]).1, (ps[k]).2, e, hb, by rw [Nat.mul_comm]; exact hc _ _ hf.1, by rw [Nat.mul_comm, Nat.add_assoc]; exact hc _ _ hf.2, Lib.hid (by rw [e1]; exact ⟨rfl, rfl⟩)⟩

theorem makeWords (n : Nat) (hn : n ≤ 4096) (W : World) : (Instr.makeSlice 49 (.int .i64 (n : Int)) (.int .i64 (n : Int))).run Try.prog W = .ok (.slice (some ⟨W.heap.size, 0, none⟩) n n) (W.alloc (.cells (wcells (List.replicate n 0)) 47)) := by
  have h := run_make_row' (P := Try.prog) 49 47 (.int .u64 0) 8 Try.underlying49 (by kernel_rfl) rfl .i64 .i64 n (by omega) (by omega) W
  rw [wcells_made] at h
  exact h
theorem pow_natCast (k : Nat) : ((2 : Int) ^ k) = ((2 ^ k : Nat) : Int) := (Int.natCast_pow 2 k).symm
theorem shl_pow {k : Nat} (hk : k < 64) : IntKind.u64.wrap ((2 : Int) ^ k) = ((2 ^ k : Nat) : Int) := by
  have hp : (2 : Nat) ^ k < 2 ^ 64 := Nat.pow_lt_pow_right (by omega) hk
  rw [pow_natCast, wrap_nat hp]
theorem or_pow (x k : Nat) (hx : x < 2 ^ 64) (hk : k < 64) : bits BinOp.or IntKind.u64 (x : Int) (IntKind.u64.wrap (2 ^ k)) = ((x ||| 2 ^ k : Nat) : Int) := by
  have hp : (2 : Nat) ^ k < 2 ^ 64 := Nat.pow_lt_pow_right (by omega) hk
  rw [shl_pow hk]
  exact u64_or_nat x _ hx hp
theorem shr_bit (x k : Nat) (hx : x < 2 ^ 64) : (bits BinOp.and IntKind.u64 ((x : Int) / 2 ^ k) 1 == 1) = x.testBit k := by
  have e : ((x : Int) / 2 ^ k) = ((x / 2 ^ k : Nat) : Int) := by rw [Int.natCast_ediv, Int.natCast_pow]; rfl
  have hle : x / 2 ^ k ≤ x := Nat.div_le_self _ _
  rw [e, show (1 : Int) = ((1 : Nat) : Int) from rfl, u64_and_nat _ 1 (Nat.lt_of_le_of_lt hle hx) (by decide), nat_mask1, ← Kb.testBit_shift, Bool.eq_iff_iff]
  simp only [beq_iff_eq]
  omega

/-- are all pairs levels? -/
def inP (n : Nat) (ps : List (Int × Int)) : Bool := ps.all fun p => lvB p.1 n && lvB p.2 n

/-- a row of the call's own -/
structure CcInv (w wr : World) (g : Nat) (ws : List Nat) : Prop where
  row : WBlk wr g ws
  hg : w.heap.size ≤ g
  bel : Below w.heap.size w wr
theorem CcInv.set_ {w wr : World} {g : Nat} {ws : List Nat} (h : CcInv w wr g ws) (k v : Nat) : CcInv w (wr.setCell ⟨g, k, none⟩ (.int .u64 (v : Int))) g (ws.set k v) := ⟨h.row.set_ _ _, h.hg, h.bel.setCell (by simpa using h.hg) _⟩
theorem CcInv.drew {w wr : World} {g : Nat} {ws : List Nat} (h : CcInv w wr g ws) : CcInv w wr.drew g ws := ⟨h.row.drew, h.hg, h.bel.drew⟩
theorem CcInv.alloc {w wr : World} {g : Nat} {ws : List Nat} (h : CcInv w wr g ws) (o : Obj) : CcInv w (wr.alloc o) g ws := ⟨h.row.alloc o, h.hg, h.bel.alloc h.bel.size o⟩

theorem base_take {ps : List (Int × Int)} {k : Nat} (hk : k < ps.length) (i j : Nat) : Kl.base (ps.take (k + 1)) i j = (Kl.base (ps.take k) i j || ((prAt ps k).1 == (i : Int) && (prAt ps k).2 == (j : Int))) := by
  unfold Kl.base prAt
  rw [List.take_succ_eq_append_getElem hk, List.any_append, List.getD_eq_getElem?_getD, List.getElem?_eq_getElem hk]
  simp [Bool.or_assoc]

set_option maxRecDepth 100000 in
set_option maxHeartbeats 4000000 in
theorem closure_ok (n : Nat) (hn : n ≤ 12) (A : Option Addr) (c : Nat) (ps : List (Int × Int)) (w : World) (h : Prs w w.heap.size A ps) (hl : ps.length ≤ 1000000) (hin : inP n ps = true) :
    Calls Try.prog 19 #[.int .i64 (n : Int), .slice A ps.length c] w fun e w' => ∃ g, w.heap.size ≤ g ∧ e = .returned (.slice (some ⟨g, 0, none⟩) n n) ∧ WBlk w' g (Kl.rows n (Kl.le n ps)) ∧ Below w.heap.size w w' := by
  have HIN := Lib.hid hin
  clear hin
  have hmk := makeWords n (by omega)
  go_enter Try.func19, Try.ntmps19
  go_wp2_with fail
  have I0 : CcInv w (w.alloc (.cells (wcells (List.replicate n 0)) 47)) w.heap.size (List.replicate n 0) := ⟨WBlk.new_ _ _, Nat.le_refl _, (Below.refl _ _).alloc (Nat.le_refl _) _⟩
  clear hmk
  go_loopw [15] (fun iv wr => ∃ k : Nat, k ≤ n ∧ iv = .int .i64 k ∧ CcInv w wr w.heap.size (Kl.rows n (fun i j => decide (i < k) && i == j))) (fun iv _ => n - (intOf iv).toNat)
  case atStart =>
    refine ⟨0, Nat.zero_le _, rfl, ?_⟩
    rw [Kl.rows_congr (S := fun _ _ => false) (fun i j _ _ => by simp), Kl.rows_zero]; exact I0
  case round =>
    clear I0
    obtain ⟨k, hk, rfl, I⟩ := hrel
    by_cases hlt : k < n
    · have hcg := I.row.cell (k := k) (by rw [Kl.rows_length]; exact hlt)
      have hfg := I.row.frozen k
      go_wp2_with fail
      go_roundw
      case rel =>
        refine ⟨k + 1, by omega, by go_num, ?_⟩
        have e : (Kl.rows n (fun i j => decide (i < k) && i == j)).set k (2 ^ k) = Kl.rows n (fun i j => decide (i < k + 1) && i == j) := by
          refine Kl.rows_set hlt (fun i j _ _ hik => ?_) ?_
          · rw [show decide (i < k + 1) = decide (i < k) by rw [decide_eq_decide]; omega]
          · rw [Kl.word_pow hlt]
            refine Kl.word_congr fun j _ => ?_
            simp [Bool.beq_comm]
        rw [← e]
        have := I.set_ k (2 ^ k)
        rw [← shl_pow (by omega)] at this
        exact this
      case measure => simp [intOf]; omega
    · obtain rfl : k = n := by omega
      go_wp2_with fail
      go_loopw [26] (fun iv wr => ∃ q : Nat, q ≤ ps.length ∧ iv = .int .i64 q ∧ CcInv w wr w.heap.size (Kl.rows k (Kl.base (ps.take q)))) (fun iv _ => ps.length - (intOf iv).toNat)
      case atStart =>
        refine ⟨0, Nat.zero_le _, rfl, ?_⟩
        rw [← Kl.rows_congr (R := fun i j => decide (i < k) && i == j) (fun i j hi _ => by simp [Kl.base, hi])]
        exact I
      case round =>
        clear I
        obtain ⟨q, hq, rfl, I⟩ := hrel
        by_cases hlq : q < ps.length
        · obtain ⟨b, off, x, y, rfl, hb, hcx, hcy, hxy⟩ := (h.below I.bel).at_ hlq
          have hr := List.all_eq_true.1 HIN.out (prAt ps q) (by unfold prAt; rw [List.getD_eq_getElem?_getD, List.getElem?_eq_getElem hlq]; exact List.getElem_mem hlq)
          rw [← hxy.out.1, ← hxy.out.2] at hr
          unfold lvB at hr
          simp only [Bool.and_eq_true, decide_eq_true_eq] at hr
          obtain ⟨i, rfl⟩ := Int.eq_ofNat_of_zero_le hr.1.1
          obtain ⟨j, rfl⟩ := Int.eq_ofNat_of_zero_le hr.2.1
          have hin1 : i < k := by omega
          have hjn1 : j < k := by omega
          have hcg := I.row.cell (k := i) (by rw [Kl.rows_length]; exact hin1)
          have hfg := I.row.frozen i
          have hgl := I.row.lt
          obtain ⟨x, hX⟩ : ∃ x : Nat, Hid ((Kl.rows k (Kl.base (ps.take q))).getD i 0 = x) := ⟨_, Lib.hid rfl⟩
          rw [hX.out] at hcg
          have hx64 : x < 2 ^ 64 := by rw [← hX.out, Kl.rows_get _ hin1]; exact Kl.word_lt (by omega) _
          have e4 : (i : Int) < (k : Int) := by omega
          clear hr
          go_wp2_with fail
          go_region
          rw [or_pow x j hx64 (by omega)]
          go_wp2_with fail
          go_roundw
          case rel =>
            refine ⟨q + 1, by omega, by go_num, ?_⟩
            have e : (Kl.rows k (Kl.base (ps.take q))).set i (x ||| 2 ^ j) = Kl.rows k (Kl.base (ps.take (q + 1))) := by
              refine Kl.rows_set hin1 (fun i' j' _ _ hik => ?_) ?_
              · rw [base_take hlq, ← hxy.out.1, show (((i : Nat) : Int) == (i' : Int)) = false by simp; omega]; simp
              · rw [← hX.out, Kl.rows_get _ hin1, Kl.word_pow hjn1, Kl.word_or]
                refine Kl.word_congr fun j' _ => ?_
                rw [base_take hlq, ← hxy.out.1, ← hxy.out.2, beq_self_eq_true, Bool.true_and]
                congr 1
                rw [Bool.eq_iff_iff, beq_iff_eq, beq_iff_eq]
                omega
            rw [← e]
            exact ((I.set_ _ _).alloc _).drew
          case measure => simp [intOf]; omega
        · obtain rfl : q = ps.length := by omega
          rw [List.take_length] at I
          go_wp2_with fail
          go_loopw [43] (fun iv wr => ∃ v : Nat, v ≤ k ∧ iv = .int .i64 v ∧ CcInv w wr w.heap.size (Kl.rows k (Kl.clo (Kl.base ps) v))) (fun iv _ => k - (intOf iv).toNat)
          case atStart => exact ⟨0, Nat.zero_le _, rfl, I⟩
          case round =>
            clear I
            obtain ⟨v, hv, rfl, I⟩ := hrel
            by_cases hvk : v < k
            · go_wp2_with fail
              go_loopw [48] (fun iv wr => ∃ t : Nat, t ≤ k ∧ iv = .int .i64 t ∧ CcInv w wr w.heap.size (Kl.rows k (Kl.stepTo (Kl.clo (Kl.base ps) v) v t))) (fun iv _ => k - (intOf iv).toNat)
              case atStart => exact ⟨0, Nat.zero_le _, rfl, by rw [Kl.rows_congr (S := Kl.clo (Kl.base ps) v) (fun i j _ _ => by unfold Kl.stepTo; rw [if_neg (Nat.not_lt_zero _)])]; exact I⟩
              case round =>
                clear I
                obtain ⟨t, ht, rfl, I⟩ := hrel
                by_cases htk : t < k
                · have hcx := I.row.cell (k := t) (by rw [Kl.rows_length]; exact htk)
                  have hcy := I.row.cell (k := v) (by rw [Kl.rows_length]; exact hvk)
                  have hfx := I.row.frozen t
                  rw [Kl.rows_get _ htk] at hcx
                  rw [Kl.rows_get _ hvk, Kl.word_congr (g := Kl.clo (Kl.base ps) v v) (fun j _ => Kl.stepTo_v _ v t j)] at hcy
                  have hxr : Kl.stepTo (Kl.clo (Kl.base ps) v) v t t = Kl.clo (Kl.base ps) v t := by funext j; unfold Kl.stepTo; rw [if_neg (Nat.lt_irrefl _)]
                  rw [hxr] at hcx
                  have hx64 := Kl.word_lt (n := k) (by omega) (Kl.clo (Kl.base ps) v t)
                  have hy64 := Kl.word_lt (n := k) (by omega) (Kl.clo (Kl.base ps) v v)
                  have hbit := shr_bit (Kb.wordTo (Kl.clo (Kl.base ps) v t) k) v hx64
                  rw [Kb.wordTo_testBit, show decide (v < k) = true by simp; exact hvk, Bool.true_and] at hbit
                  have hor := u64_or_nat _ _ hx64 hy64
                  rw [Kl.word_or] at hor
                  have hv1 : (v : Int) < (k : Int) := by omega
                  cases hb : Kl.clo (Kl.base ps) v t v with
                  | true =>
                    have hstep : (Kl.rows k (Kl.stepTo (Kl.clo (Kl.base ps) v) v t)).set t (Kb.wordTo (fun j => Kl.clo (Kl.base ps) v t j || Kl.clo (Kl.base ps) v v j) k) = Kl.rows k (Kl.stepTo (Kl.clo (Kl.base ps) v) v (t + 1)) := by
                      refine Kl.rows_set htk (fun i j _ _ hit => ?_) (Kl.word_congr fun j _ => ?_)
                      · unfold Kl.stepTo
                        by_cases hlt : i < t
                        · rw [if_pos (by omega), if_pos hlt]
                        · rw [if_neg (by omega), if_neg hlt]
                      · unfold Kl.stepTo Kl.step
                        rw [if_pos (by omega), hb]; simp
                    have HS := Lib.hid hstep
                    rw [hb] at hbit
                    revert hcx hcy hbit hor HS
                    generalize Kb.wordTo (fun j => Kl.clo (Kl.base ps) v t j || Kl.clo (Kl.base ps) v v j) k = z
                    generalize Kb.wordTo (Kl.clo (Kl.base ps) v t) k = x
                    generalize Kb.wordTo (Kl.clo (Kl.base ps) v v) k = y
                    intro hcx hcy hbit hor HS
                    clear hstep hb hxr hx64 hy64
                    go_wp2_with fail
                    go_region
                    go_wp2_with fail
                    go_roundw
                    case rel =>
                      refine ⟨t + 1, by omega, by go_num, ?_⟩
                      rw [← HS.out]
                      exact I.drew.set_ _ _
                    case measure => simp [intOf]; omega
                  | false =>
                    have hsame : Kl.rows k (Kl.stepTo (Kl.clo (Kl.base ps) v) v t) = Kl.rows k (Kl.stepTo (Kl.clo (Kl.base ps) v) v (t + 1)) := Kl.rows_congr fun i j _ _ => by
                      unfold Kl.stepTo
                      by_cases hlt : i < t
                      · rw [if_pos hlt, if_pos (by omega)]
                      · by_cases e : i = t
                        · subst e
                          rw [if_neg hlt, if_pos (by omega)]
                          unfold Kl.step; rw [hb]; simp
                        · rw [if_neg hlt, if_neg (by omega)]
                    rw [hsame] at I
                    rw [hb] at hbit
                    revert hcx hbit
                    generalize Kb.wordTo (Kl.clo (Kl.base ps) v t) k = x
                    intro hcx hbit
                    clear hsame hb hxr hx64 hy64 hor hcy
                    go_wp2_with fail
                    go_roundw
                    case rel => exact ⟨t + 1, by omega, by go_num, I⟩
                    case measure => simp [intOf]; omega
                · obtain rfl : t = k := by omega
                  rw [Kl.rows_congr (S := Kl.clo (Kl.base ps) (v + 1)) (fun i j hi _ => by unfold Kl.stepTo; rw [if_pos hi]; rfl)] at I
                  go_wp2_with fail
                  go_roundw
                  case rel => exact ⟨v + 1, by omega, by go_num, I⟩
                  case measure => simp [intOf]; omega
            · obtain rfl : v = k := by omega
              go_wp2_with fail
              go_ret
              exact ⟨w.heap.size, Nat.le_refl _, rfl, I.row, I.bel⟩
end Go.Proofs.Ytcckocaaoklibaa
