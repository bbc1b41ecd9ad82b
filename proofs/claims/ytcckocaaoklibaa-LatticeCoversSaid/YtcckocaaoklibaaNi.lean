/- Walks: Covers. -/
import Derived.Test.YtcckocaaoklibaaNh
import Derived.Test.YtcckocaaoklibaaBWr
namespace Go.Proofs.Ytcckocaaoklibaa
open Go.RowKit Go.Maps
set_option linter.unusedVariables false

namespace Kb
theorem cnt_mono {p q : Nat → Bool} (k : Nat) (h : ∀ i, i < k → p i = true → q i = true) : cnt p k ≤ cnt q k := by
  induction k with
  | zero => exact Nat.le_refl _
  | succ k ih =>
    rw [cnt_succ, cnt_succ]
    have h1 := ih (fun i hi => h i (by omega))
    have h2 := h k (by omega)
    have h3 : (if p k = true then 1 else 0) ≤ (if q k = true then 1 else 0) := by
      cases hp : p k with
      | true => rw [h2 hp]; exact Nat.le_refl _
      | false => exact Nat.zero_le _
    omega
theorem cnt_lt {p q : Nat → Bool} (k : Nat) (h : ∀ i, i < k → p i = true → q i = true) {x : Nat} (hx : x < k) (hq : q x = true) (hp : p x = false) : cnt p k < cnt q k := by
  induction k with
  | zero => omega
  | succ k ih =>
    rw [cnt_succ, cnt_succ]
    by_cases e : x = k
    · subst e
      have h1 := cnt_mono x (fun i hi => h i (by omega))
      have h3 : (if p x = true then 1 else 0) = 0 := by rw [hp]; rfl
      have h4 : (if q x = true then 1 else 0) = 1 := by rw [hq]; rfl
      omega
    · have h1 := ih (fun i hi => h i (by omega)) (by omega)
      have h2 := h k (by omega)
      have h3 : (if p k = true then 1 else 0) ≤ (if q k = true then 1 else 0) := by
        cases hp : p k with
        | true => rw [h2 hp]; exact Nat.le_refl _
        | false => exact Nat.zero_le _
      omega
theorem cnt_is (a k : Nat) : cnt (fun j => decide (j = a)) k = if a < k then 1 else 0 := by
  induction k with
  | zero => rfl
  | succ k ih =>
    rw [cnt_succ, ih]
    simp only [decide_eq_true_eq]
    (repeat' split) <;> omega
theorem cnt_two {a b : Nat} (k : Nat) (hab : a ≠ b) : cnt (fun j => decide (j = a) || decide (j = b)) k = (if a < k then 1 else 0) + (if b < k then 1 else 0) := by
  induction k with
  | zero => rfl
  | succ k ih =>
    rw [cnt_succ, ih]
    simp only [Bool.or_eq_true, decide_eq_true_eq]
    (repeat' split) <;> omega
end Kb
namespace Kl
theorem Lat.cv_cnt {L : Nat → Nat → Bool} {n a b : Nat} (h : Lat L n) (hn : n ≤ 12) (ha : a < n) (hb : b < n) :
    (Kb.cnt (fun j => decide (j < n) && (L a j && L j b)) 64 = 2) ↔ cvB L n a b = true := by
  cases hab : L a b with
  | false =>
    have h0 : Kb.cnt (fun j => decide (j < n) && (L a j && L j b)) 64 = 0 := Kb.cnt_none 64 fun i _ => by
      cases q : (decide (i < n) && (L a i && L i b)) with
      | false => rfl
      | true =>
        simp only [Bool.and_eq_true, decide_eq_true_eq] at q
        have := h.pre.trans a i b q.1 q.2.1 q.2.2
        rw [hab] at this; cases this
    rw [h0]
    constructor
    · intro e; omega
    · intro e
      have := (cvB_iff.1 e).1
      rw [hab] at this; cases this
  | true =>
    by_cases e : a = b
    · subst e
      have h1 : Kb.cnt (fun j => decide (j < n) && (L a j && L j a)) 64 ≤ Kb.cnt (fun j => decide (j = a)) 64 := Kb.cnt_mono 64 fun i _ q => by
        simp only [Bool.and_eq_true, decide_eq_true_eq] at q ⊢
        exact (h.anti a i ha q.1 q.2.1 q.2.2).symm
      rw [Kb.cnt_is, if_pos (by omega)] at h1
      constructor
      · intro e; omega
      · intro e; exact absurd rfl (cvB_iff.1 e).2.1
    · have h2 : Kb.cnt (fun j => decide (j = a) || decide (j = b)) 64 = 2 := by rw [Kb.cnt_two 64 e, if_pos (by omega), if_pos (by omega)]
      have hsub : ∀ i, i < 64 → (decide (i = a) || decide (i = b)) = true → (decide (i < n) && (L a i && L i b)) = true := fun i _ q => by
        simp only [Bool.or_eq_true, decide_eq_true_eq] at q
        rcases q with rfl | rfl
        · rw [decide_eq_true ha, h.pre.refl, hab]; rfl
        · rw [decide_eq_true hb, h.pre.refl, hab]; rfl
      cases hc : cvB L n a b with
      | true =>
        refine ⟨fun _ => rfl, fun _ => ?_⟩
        rw [← h2]
        refine Kb.cnt_congr 64 fun i hi => ?_
        cases q : (decide (i = a) || decide (i = b)) with
        | true => exact hsub i hi q
        | false =>
          cases r : (decide (i < n) && (L a i && L i b)) with
          | false => rfl
          | true =>
            simp only [Bool.and_eq_true, decide_eq_true_eq] at r
            rcases (cvB_iff.1 hc).2.2 i r.1 r.2.1 r.2.2 with rfl | rfl <;> simp at q
      | false =>
        obtain ⟨c, hcn, q1, q2, q3, q4⟩ := cvB_no hc hab e
        have := Kb.cnt_lt 64 hsub (x := c) (by omega) (by rw [decide_eq_true hcn, q1, q2]; rfl) (by rw [decide_eq_false q3, decide_eq_false q4]; rfl)
        constructor
        · intro e; omega
        · intro e; cases e
end Kl

section
variable {lb n : Nat} {An : Option Addr} {cn : Nat} {Mv : Value} {Aa : Option Addr} {ca : Nat} {Ab : Option Addr} {cb : Nat} {L : Nat → Nat → Bool}
set_option maxRecDepth 100000 in
set_option maxHeartbeats 8000000 in
theorem covers_ok (hL : Kl.Lat L n) (hn : n ≤ 12) (w : World) (h : PL w lb n An cn Mv Aa ca Ab cb L) :
    Calls Try.prog 6 #[.pointer (some ⟨lb, 0, none⟩)] w fun e w' => ∃ A c, e = .returned (.slice A (Kl.cvTo L n n).length c) ∧ Prs w' w'.heap.size A (Kl.cvTo L n n) ∧ Below w.heap.size w w' := by
  have HL := Lib.hid hL
  clear hL
  obtain ⟨i0, hi, hz0, hz1, hz2⟩ := info_parts infoPair
  have hsz : ∀ W, PL W lb n An cn Mv Aa ca Ab cb L → Calls Try.prog 12 #[.pointer (some ⟨lb, 0, none⟩)] W fun e w' => e = .returned (.int .i64 (n : Int)) ∧ W = w' := fun W hW => size_ok W hW
  have HSZ := Lib.hid hsz
  clear hsz
  have I0 : PsOwn w w (.slice none 0 0) [] := ⟨⟨rfl, .inl ⟨rfl, rfl⟩⟩, Below.refl _ _⟩
  go_enter Try.func6, Try.ntmps6
  go_wp2_with fail
  refine (HSZ.out _ h).mono ?_
  rintro e w' ⟨rfl, rfl⟩
  go_wp2_with fail
  go_loopw [3, 8] (fun v av wr => ∃ a : Nat, a ≤ n ∧ av = .int .i64 (a : Int) ∧ PsOwn w wr v (Kl.cvTo L n a)) (fun _ av _ => n - (intOf av).toNat)
  case atStart => exact ⟨0, Nat.zero_le _, rfl, I0⟩
  case round =>
    clear I0
    obtain ⟨a, ha, rfl, I⟩ := hrel
    by_cases hal : a < n
    · have haI : (a : Int) < (n : Int) := by omega
      go_wp2_with fail
      refine (HSZ.out _ (h.below I.bel)).mono ?_
      rintro e w' ⟨rfl, rfl⟩
      go_wp2_with fail
      go_loopw [3, 13] (fun v bv wr => ∃ b : Nat, b ≤ n ∧ bv = .int .i64 (b : Int) ∧ PsOwn w wr v (Kl.cvTo L n a ++ Kl.cvRow L n a b)) (fun _ bv _ => n - (intOf bv).toNat)
      case atStart => exact ⟨0, Nat.zero_le _, rfl, by rw [Kl.cvRow_zero, List.append_nil]; exact I⟩
      case round =>
        clear I
        obtain ⟨b, hb, rfl, I⟩ := hrel
        by_cases hbl : b < n
        · have hbI : (b : Int) < (n : Int) := by omega
          have h2 := h.below I.bel
          have c2 := h2.four.c2
          have c3 := h2.four.c3
          obtain ⟨bk, off, x, rfl, hbb, hcx, hx⟩ := h2.ab.at_ (k := a) (by rw [Kl.rows_length]; exact hal)
          obtain ⟨bk2, off2, y, rfl, hbb2, hcy, hy⟩ := h2.be.at_ (k := b) (by rw [Kl.rows_length]; exact hbl)
          have hand : bits BinOp.and IntKind.u64 (x : Int) (y : Int) = ((x &&& y : Nat) : Int) := u64_and_nat x y hx.out.2 hy.out.2
          have hlt : (x &&& y) < 2 ^ 64 := Nat.lt_of_le_of_lt Nat.and_le_left hx.out.2
          have hcnt : Kb.cnt (x &&& y).testBit 64 = Kb.cnt (fun j => decide (j < n) && (L a j && L j b)) 64 := Kb.cnt_congr 64 fun i _ => by
            rw [Nat.testBit_and, hx.out.1, hy.out.1, Kl.rows_get _ hal, Kl.rows_get _ hbl, Kb.wordTo_testBit, Kb.wordTo_testBit]
            cases decide (i < n) <;> simp [Kl.flip]
          have hiff := HL.out.cv_cnt hn hal hbl
          rw [← hcnt] at hiff
          have hones : ∀ W, Calls Try.prog 16 #[.int .u64 ((x &&& y : Nat) : Int)] W fun e w' => e = .returned (.int .i64 ((Kb.cnt (x &&& y).testBit 64 : Nat) : Int)) ∧ W = w' := fun W => ones_ok _ hlt W
          have HO := Lib.hid hones
          have HI := Lib.hid hiff
          clear hones hiff hcnt hlt
          revert HO HI hand
          generalize Kb.cnt (x &&& y).testBit 64 = m
          generalize x &&& y = z
          intro hand HO HI
          have hnext : Hid (Kl.cvTo L n a ++ Kl.cvRow L n a (b + 1) = (Kl.cvTo L n a ++ Kl.cvRow L n a b) ++ (if Kl.cvB L n a b then [((a : Int), (b : Int))] else [])) := Lib.hid (by rw [Kl.cvRow_succ, List.append_assoc])
          have hlen : Hid ((Kl.cvTo L n a ++ Kl.cvRow L n a b).length ≤ 169) := Lib.hid (by
            rw [List.length_append]
            have q1 := Kl.cvTo_len L n a
            have q2 := Kl.cvRow_len L n a b
            have q3 : a * n ≤ 12 * 12 := Nat.mul_le_mul (by omega) hn
            omega)
          cases hcv : Kl.cvB L n a b with
          | false =>
            have HN : Hid (Kl.cvTo L n a ++ Kl.cvRow L n a (b + 1) = Kl.cvTo L n a ++ Kl.cvRow L n a b) := Lib.hid (by rw [hnext.out, hcv]; simp)
            have hm : m ≠ 2 := fun e => by have := HI.out.1 e; rw [hcv] at this; cases this
            have q1 : ((m : Int) == 2) = false := by simp; omega
            clear hcv hm
            go_wp2_with fail
            go_quiet ((go_at_call 16; exact quiet_of_eq (HO.out _)))
            replace I := I.drewN nq
            clear c2 c3 hcx hcy
            go_wp2_with fail
            go_roundw
            case rel => exact ⟨b + 1, by omega, by go_num, by rw [HN.out]; exact I⟩
            case measure => simp [intOf]; omega
          | true =>
            have HN : Hid (Kl.cvTo L n a ++ Kl.cvRow L n a (b + 1) = (Kl.cvTo L n a ++ Kl.cvRow L n a b) ++ [((a : Int), (b : Int))]) := Lib.hid (by rw [hnext.out, hcv]; simp)
            have hm : m = 2 := HI.out.2 hcv
            subst hm
            clear hcv
            go_wp2_with fail
            go_quiet ((go_at_call 16; exact quiet_of_eq (HO.out _)))
            replace I := I.drewN nq
            clear c2 c3 hcx hcy
            revert I hlen HN
            generalize Kl.cvTo L n a ++ Kl.cvRow L n a b = qs
            intro hlen HN I
            obtain ⟨A', c', rfl⟩ := own_slice2 I.own
            have ho := I.own
            go_wp2_with (at_builtin; refine wpList_append_own _ rfl _ _ 23 rfl w.heap.size 33 i0 (.agg #[.int .i64 0, .int .i64 0]) 2 16 Try.underlying23 hi hz0 hz1 hz2 rfl (by decide) _ _ _ rfl (ho.alloc _) ⟨_, 0, none⟩ 1 1 [.int .i64 (a : Int), .int .i64 (b : Int)] rfl rfl ?c1 ?c2 ?c3 ?c4 ?c5 ?_)
            case c1 =>
              intro j u hu
              have hrow := heap_alloc_new (wr.drewN nq) (.cells #[.int .i64 (a : Int), .int .i64 (b : Int)] 33)
              have hq := cell_of_row _ (wr.drewN nq).heap.size (0 + j) _ _ _ hrow
              rw [Go.WideShapes.add_plain]
              refine Eq.trans hq ?_
              rw [Nat.zero_add]
              simpa using hu
            case c2 => intro u hu; simp at hu; rcases hu with rfl | rfl <;> rfl
            case c3 => have := hlen.out; unfold maxLen; omega
            case c4 => have := hlen.out; omega
            case c5 => have := I.bel.size; rw [World.size_alloc]; omega
            intro v' w3 hown' hgrow _
            have I3 := I.snoc hown' hgrow
            clear hown' hgrow ho I
            go_wp2_with fail
            go_roundw
            case rel => exact ⟨b + 1, by omega, by go_num, by rw [HN.out]; exact I3⟩
            case measure => simp [intOf]; omega
        · obtain rfl : b = n := by omega
          rw [← Kl.cvTo_succ] at I
          go_wp2_with fail
          go_roundw
          case rel => exact ⟨a + 1, by omega, by go_num, I⟩
          case measure => simp [intOf]; omega
    · obtain rfl : a = n := by omega
      obtain ⟨A', c', rfl⟩ := own_slice2 I.own
      have hpr := I.prs
      have hbel := I.bel
      go_wp2_with fail
      go_ret
      exact ⟨A', c', rfl, hpr, hbel⟩
end
end Go.Proofs.Ytcckocaaoklibaa
