/- Walks: converse, bound. -/
import Derived.Test.YtcckocaaoklibaaN3
namespace Go.Proofs.Ytcckocaaoklibaa
open Go.RowKit
set_option linter.unusedVariables false

namespace Kl
/-- the converse behind k rows and t bits -/
def cvR (R : Nat → Nat → Bool) (k t : Nat) : Nat → Nat → Bool := fun b a => (decide (a < k) || (a == k && decide (b < t))) && R a b
end Kl
theorem or_zero (x : Nat) (hx : x < 2 ^ 64) : bits BinOp.or IntKind.u64 (x : Int) 0 = (x : Int) := by
  have := u64_or_nat x 0 hx (by decide)
  simpa using this
theorem bit_one {x k : Nat} (hx : x < 2 ^ 64) (h : x.testBit k = true) : bits BinOp.and IntKind.u64 ((x : Int) / 2 ^ k) 1 = 1 := by
  have := shr_bit x k hx
  rw [h, beq_iff_eq] at this; exact this
theorem bit_nil {x k : Nat} (hx : x < 2 ^ 64) (h : x.testBit k = false) : bits BinOp.and IntKind.u64 ((x : Int) / 2 ^ k) 1 = 0 := by
  have e : ((x : Int) / 2 ^ k) = ((x / 2 ^ k : Nat) : Int) := by rw [Int.natCast_ediv, Int.natCast_pow]; rfl
  have hle : x / 2 ^ k ≤ x := Nat.div_le_self _ _
  have h1 := Kb.testBit_shift x k
  rw [h, beq_eq_false_iff_ne] at h1
  rw [e, show (1 : Int) = ((1 : Nat) : Int) from rfl, u64_and_nat _ 1 (Nat.lt_of_le_of_lt hle hx) (by decide), nat_mask1]
  omega

set_option maxRecDepth 100000 in
set_option maxHeartbeats 4000000 in
theorem converse_ok (n : Nat) (hn : n ≤ 12) (R : Nat → Nat → Bool) (A : Option Addr) (c : Nat) (w : World) (h : Words w w.heap.size A (Kl.rows n R)) :
    Calls Try.prog 20 #[.slice A n c] w fun e w' => ∃ g, w.heap.size ≤ g ∧ e = .returned (.slice (some ⟨g, 0, none⟩) n n) ∧ WBlk w' g (Kl.rows n (Kl.flip R)) ∧ Below w.heap.size w w' := by
  have hmk := makeWords n (by omega)
  go_enter Try.func20, Try.ntmps20
  go_wp2_with fail
  have I0 : CcInv w (w.alloc (.cells (wcells (List.replicate n 0)) 47)) w.heap.size (List.replicate n 0) := ⟨WBlk.new_ _ _, Nat.le_refl _, (Below.refl _ _).alloc (Nat.le_refl _) _⟩
  clear hmk
  go_loopw [12] (fun iv wr => ∃ k : Nat, k ≤ n ∧ iv = .int .i64 k ∧ CcInv w wr w.heap.size (Kl.rows n (Kl.cvR R k 0))) (fun iv _ => n - (intOf iv).toNat)
  case atStart =>
    refine ⟨0, Nat.zero_le _, rfl, ?_⟩
    rw [Kl.rows_congr (S := fun _ _ => false) (fun i j _ _ => by simp [Kl.cvR]), Kl.rows_zero]; exact I0
  case round =>
    clear I0
    obtain ⟨k, hk, rfl, I⟩ := hrel
    by_cases hlt : k < n
    · obtain ⟨b, off, m, rfl, hb, hcm, hm⟩ := (h.below I.bel).at_ (k := k) (by rw [Kl.rows_length]; exact hlt)
      have hmw : Hid (m = Kb.wordTo (R k) n) := Lib.hid (by rw [hm.out.1, Kl.rows_get _ hlt])
      go_wp2_with fail
      go_loopw [19] (fun iv wr => ∃ t : Nat, t ≤ n ∧ iv = .int .i64 t ∧ CcInv w wr w.heap.size (Kl.rows n (Kl.cvR R k t))) (fun iv _ => n - (intOf iv).toNat)
      case atStart => exact ⟨0, Nat.zero_le _, rfl, I⟩
      case round =>
        clear I hcm
        obtain ⟨t, ht, rfl, I⟩ := hrel
        by_cases htn : t < n
        · have hcx := I.row.cell (k := t) (by rw [Kl.rows_length]; exact htn)
          have hfx := I.row.frozen t
          rw [Kl.rows_get _ htn] at hcx
          have hx64 := Kl.word_lt (n := n) (by omega) (Kl.cvR R k t t)
          have hrow : ∀ i j, i < n → j < n → i ≠ t → Kl.cvR R k (t + 1) i j = Kl.cvR R k t i j := fun i j _ _ hit => by
            unfold Kl.cvR
            rw [show decide (i < t + 1) = decide (i < t) by rw [decide_eq_decide]; omega]
          have e0 : (t : Int) < (n : Int) := by omega
          have htb : m.testBit t = R k t := by rw [hmw.out, Kb.wordTo_testBit]; simp [htn]
          cases hb2 : R k t with
          | true =>
            have hand := bit_one hm.out.2 (htb.trans hb2)
            have HS := Lib.hid (Kl.rows_set (S := Kl.cvR R k (t + 1)) (v := Kb.wordTo (Kl.cvR R k t t) n ||| 2 ^ k) htn hrow (by
              rw [Kl.word_pow hlt, Kl.word_or]
              refine Kl.word_congr fun j _ => ?_
              unfold Kl.cvR
              by_cases e : j = k
              · subst e; simp [hb2]
              · rw [show (j == k) = false by simpa using e]; simp))
            clear hb2 htb hrow
            revert hcx hx64 HS
            generalize Kb.wordTo (Kl.cvR R k t t) n = x
            intro hcx hx64 HS
            go_wp2_with fail
            go_region
            rw [or_pow x k hx64 (by omega)]
            go_wp2_with fail
            go_roundw
            case rel =>
              refine ⟨t + 1, by omega, by go_num, ?_⟩
              rw [← HS.out]
              exact I.drew.set_ _ _
            case measure => simp [intOf]; omega
          | false =>
            have hand := bit_nil hm.out.2 (htb.trans hb2)
            have HS := Lib.hid (Kl.rows_set (S := Kl.cvR R k (t + 1)) (v := Kb.wordTo (Kl.cvR R k t t) n) htn hrow (by
              refine Kl.word_congr fun j _ => ?_
              unfold Kl.cvR
              by_cases e : j = k
              · subst e; simp [hb2]
              · rw [show (j == k) = false by simpa using e]; simp))
            clear hb2 htb hrow
            revert hcx hx64 HS
            generalize Kb.wordTo (Kl.cvR R k t t) n = x
            intro hcx hx64 HS
            have hoz := or_zero x hx64
            go_wp2_with fail
            go_region
            go_wp2_with fail
            go_roundw
            case rel =>
              refine ⟨t + 1, by omega, by go_num, ?_⟩
              rw [← HS.out]
              exact I.drew.set_ _ _
            case measure => simp [intOf]; omega
        · obtain rfl : t = n := by omega
          rw [Kl.rows_congr (S := Kl.cvR R (k + 1) 0) (fun i j hi _ => by
            unfold Kl.cvR
            simp only [hi, decide_true, Bool.and_true, Nat.not_lt_zero, decide_false, Bool.and_false, Bool.or_false]
            congr 1
            rw [Bool.eq_iff_iff]; simp; omega)] at I
          go_wp2_with fail
          go_roundw
          case rel => exact ⟨k + 1, by omega, by go_num, I⟩
          case measure => simp [intOf]; omega
    · obtain rfl : k = n := by omega
      rw [Kl.rows_congr (S := Kl.flip R) (fun i j hi hj => by unfold Kl.cvR Kl.flip; simp [hj])] at I
      go_wp2_with fail
      go_ret
      exact ⟨w.heap.size, Nat.le_refl _, rfl, I.row, I.bel⟩

theorem bnd_word {M : Nat → Nat → Bool} {n a b c : Nat} : Kl.bnd M n a b c = decide (Kb.wordTo (M c) n = Kb.wordTo (fun j => M a j && M b j) n) := by
  rw [Bool.eq_iff_iff, Kl.bnd_iff, decide_eq_true_iff, Kl.word_iff]

set_option maxRecDepth 100000 in
set_option maxHeartbeats 4000000 in
theorem bound_ok (n : Nat) (hn : n ≤ 12) (R : Nat → Nat → Bool) (A : Option Addr) (c a b : Nat) (w : World) (h : Words w w.heap.size A (Kl.rows n R)) (ha : a < n) (hb : b < n) :
    Calls Try.prog 29 #[.slice A n c, .int .i64 (a : Int), .int .i64 (b : Int)] w fun e w' => e = .returned (.tuple #[.int .i64 ((Kl.num (Kl.jn R n a b) : Nat) : Int), .bool (Kl.jn R n a b).isSome]) ∧ ∃ q, w' = w.drewN q := by
  obtain ⟨bk, off, y, rfl, hbb, hcy, hy⟩ := h.at_ (k := a) (by rw [Kl.rows_length]; exact ha)
  obtain ⟨bk2, off2, z, he, hbb2, hcz, hz⟩ := h.at_ (k := b) (by rw [Kl.rows_length]; exact hb)
  injection he with he
  injection he with h1 h2
  subst h1 h2
  have hand := u64_and_nat y z hy.out.2 hz.out.2
  have hyz : Hid (y &&& z = Kb.wordTo (fun j => R a j && R b j) n) := Lib.hid (by rw [hy.out.1, hz.out.1, Kl.rows_get _ ha, Kl.rows_get _ hb, Kl.word_and])
  revert hand hyz
  generalize y &&& z = u
  intro hand hyz
  have ha1 : (a : Int) < (n : Int) := by omega
  have hb1 : (b : Int) < (n : Int) := by omega
  go_enter Try.func29, Try.ntmps29
  go_wp2_with fail
  go_loopw [12] (fun kv wr => ∃ k q : Nat, k ≤ n ∧ kv = .int .i64 k ∧ wr = w.drewN q ∧ Hid (∀ d, d < k → Kl.bnd R n a b d = false)) (fun kv _ => n - (intOf kv).toNat)
  case atStart => exact ⟨0, 0, Nat.zero_le _, rfl, rfl, Lib.hid fun d h => by omega⟩
  case round =>
    obtain ⟨k, q, hk, rfl, rfl, hno⟩ := hrel
    by_cases hlt : k < n
    · obtain ⟨bk2, off2, x, he, hbb2, hcx, hx⟩ := h.at_ (k := k) (by rw [Kl.rows_length]; exact hlt)
      injection he with he
      injection he with h1 h2
      subst h1 h2
      have hbn := bnd_word (M := R) (n := n) (a := a) (b := b) (c := k)
      rw [← hyz.out, ← Kl.rows_get R hlt, ← hx.out.1] at hbn
      cases hq : Kl.bnd R n a b k with
      | true =>
        rw [hq, eq_comm, decide_eq_true_iff] at hbn
        have hxu : ((x : Int) == (u : Int)) = true := by simp; omega
        have hxu2 : (x == u) = true := by simp; omega
        have hR := Lib.hid (Kl.firstN_is hlt hq hno.out)
        clear hq hbn
        go_wp2_with fail
        go_quiet (fail)
        go_wp2_with fail
        go_ret2
        refine ⟨?_, _, World.drewN_drewN _ _ _⟩
        unfold Kl.jn
        rw [hR.out]; rfl
      | false =>
        rw [hq, eq_comm, decide_eq_false_iff_not] at hbn
        have hxu : ((x : Int) == (u : Int)) = false := by simp; omega
        have hxu2 : (x == u) = false := by simp; omega
        have HQ := Lib.hid hq
        clear hq hbn
        go_wp2_with fail
        go_quiet (fail)
        go_wp2_with fail
        go_roundw
        case rel => exact ⟨k + 1, _, by omega, by go_num, rfl, Lib.hid fun d hd => by
          by_cases e : d = k
          · rw [e]; exact HQ.out
          · exact hno.out d (by omega)⟩
        case measure => simp [intOf]; omega
    · obtain rfl : k = n := by omega
      have hR := Lib.hid (Kl.firstN_no hno.out)
      go_wp2_with fail
      go_ret2
      refine ⟨?_, _, rfl⟩
      unfold Kl.jn
      rw [hR.out]; rfl
end Go.Proofs.Ytcckocaaoklibaa
