/- Walks: combine, subtractWords. -/
import Derived.Test.YtmhfdmidaheoeaaDoorW5
namespace Go.Proofs.YtmhfdmidaheoeaaDoor
open Go.RowKit
set_option linter.unusedVariables false

theorem and_low (n : Nat) (h : n < 18446744073709551616) : bits BinOp.and IntKind.u64 (n : Int) 4294967295 = ((n % 4294967296 : Nat) : Int) := by
  have := u64_and_nat n 4294967295 h (by decide)
  rw [show ((4294967295 : Nat) : Int) = 4294967295 from rfl] at this
  rw [this, show (4294967295 : Nat) = 2 ^ 32 - 1 from rfl, Nat.and_two_pow_sub_one_eq_mod]

/-- a word of a difference -/
theorem diff_word (p q : Nat) : ∃ r bo : Nat, IntKind.u64.wrap (((p % 4294967296 : Nat) : Int) - ((q % 4294967296 : Nat) : Int)) % 4294967296 = (r : Int) ∧
    IntKind.u64.wrap (((p % 4294967296 : Nat) : Int) - ((q % 4294967296 : Nat) : Int)) / 9223372036854775808 = (bo : Int) ∧ r + q % 4294967296 = p % 4294967296 + 4294967296 * bo ∧ r < 4294967296 ∧ bo ≤ 1 := by
  rw [IntKind.wrap_u64]
  by_cases h : q % 4294967296 ≤ p % 4294967296
  · exact ⟨p % 4294967296 - q % 4294967296, 0, by omega, by omega, by omega, by omega, by omega⟩
  · exact ⟨p % 4294967296 + 4294967296 - q % 4294967296, 1, by omega, by omega, by omega, by omega, by omega⟩

set_option maxRecDepth 100000 in
set_option maxHeartbeats 1000000 in
theorem combine_any (m : Nat) (A : Option Addr) (ca : Nat) (a : List Nat) (n : Nat) (B : Option Addr) (cb : Nat) (b : List Nat) (w : World) (ha : Sl w w.heap.size A ca a) (hb : Sl w w.heap.size B cb b) (hla : a.length ≤ 999999999) (hlb : b.length ≤ 999999999)
    (hm : m < 4294967296) (hn : n < 4294967296) (hle : n * Kn.val b ≤ m * Kn.val a) (hlt : m * Kn.val a - n * Kn.val b < Kn.pw a.length) :
    Calls Tryd.prog 59 #[.int .u64 (m : Int), .slice A a.length ca, .int .u64 (n : Int), .slice B b.length cb] w (MagRes (m * Kn.val a - n * Kn.val b) w) := by
  have HLE := Lib.hid hle
  have HLT := Lib.hid hlt
  clear hle hlt
  have hmk := makeU32 a.length (by omega) ((a.length : Nat) : Int) rfl
  go_enter Tryd.func59, Tryd.ntmps59
  go_wp2_with fail
  have F0 := FillW.new_ w a.length
  revert F0
  generalize w.alloc (.cells (ncells .u32 (List.replicate a.length 0)) 39) = w1
  intro F0
  clear hmk
  go_loopw [10, 11, 12, 21] (fun pv mv bv iv wr => ∃ k plus minus bo vs, k ≤ a.length ∧ iv = .int .i64 (k : Nat) ∧ pv = .int .u64 (plus : Nat) ∧ mv = .int .u64 (minus : Nat) ∧ bv = .int .u64 (bo : Nat) ∧ plus < 4294967296 ∧ minus < 4294967296 ∧ bo ≤ 1 ∧ FillW w wr w.heap.size a.length vs ∧
    Hid (Kn.val (vs.take k) + n * Kn.val (b.take k) + Kn.pw k * plus = m * Kn.val (a.take k) + Kn.pw k * (minus + bo))) (fun _ _ _ iv _ => a.length - (intOf iv).toNat)
  case atStart => exact ⟨0, 0, 0, 0, _, Nat.zero_le _, rfl, rfl, rfl, rfl, by omega, by omega, by omega, F0, Lib.hid (by simp [Kn.val])⟩
  case round =>
    obtain ⟨k, plus, minus, bo, vs, hk, rfl, rfl, rfl, rfl, hp, hmi, hbo, F, HI⟩ := hrel
    by_cases hlt : k < a.length
    · obtain ⟨b1, o1, x, rfl, hb1, hc1, hx, hxl⟩ := (ha.below F.bel).word hlt
      have hcg := F.row.cell (k := k) (by have := F.len; omega)
      have hfg := F.row.frozen k
      obtain ⟨mx, hmx⟩ : ∃ mx : Nat, Hid (mx = m * x) := ⟨_, Lib.hid rfl⟩
      have hmxl : mx ≤ 18446744065119617025 := by rw [hmx.out]; exact Nat.le_trans (Nat.mul_le_mul (show m ≤ 4294967295 by omega) (show x ≤ 4294967295 by omega)) (by decide)
      have hmxw : Hid (IntKind.u64.wrap ((m : Int) * (x : Int)) = (mx : Int)) := Lib.hid (by rw [← Int.natCast_mul, ← hmx.out]; exact wrap_nat (by omega))
      by_cases hlt2 : k < b.length
      · obtain ⟨b2, o2, y, rfl, hb2, hc2, hy, hyl⟩ := (hb.below F.bel).word hlt2
        have hlt3 : decide (k < b.length) = true := by simp [hlt2]
        obtain ⟨ny, hny⟩ : ∃ ny : Nat, Hid (ny = n * y) := ⟨_, Lib.hid rfl⟩
        have hnyl : ny ≤ 18446744065119617025 := by rw [hny.out]; exact Nat.le_trans (Nat.mul_le_mul (show n ≤ 4294967295 by omega) (show y ≤ 4294967295 by omega)) (by decide)
        have hnyw : Hid (IntKind.u64.wrap ((n : Int) * (y : Int)) = (ny : Int)) := Lib.hid (by rw [← Int.natCast_mul, ← hny.out]; exact wrap_nat (by omega))
        have eq : Hid (IntKind.u64.wrap ((minus : Int) + (bo : Int) + (ny : Int)) = ((minus + bo + ny : Nat) : Int)) := Lib.hid (by rw [← Int.natCast_add, ← Int.natCast_add]; exact wrap_nat (by omega))
        obtain ⟨r, bo', D1, D2, D3, D4, D5⟩ := diff_word (plus + mx) (minus + bo + ny)
        have HD1 := Lib.hid D1
        have HD2 := Lib.hid D2
        have HD3 := Lib.hid D3
        clear D1 D2 D3
        have hp2 : (plus + mx) / 4294967296 < 4294967296 := by omega
        have hq2 : (minus + bo + ny) / 4294967296 < 4294967296 := by omega
        have ep : Hid (IntKind.u64.wrap ((plus : Int) + (mx : Int)) = ((plus + mx : Nat) : Int)) := Lib.hid (by rw [← Int.natCast_add]; exact wrap_nat (by omega))
        have al : Hid (bits BinOp.and IntKind.u64 ((plus + mx : Nat) : Int) 4294967295 = (((plus + mx) % 4294967296 : Nat) : Int)) := Lib.hid (and_low _ (by omega))
        have aq : Hid (bits BinOp.and IntKind.u64 ((minus + bo + ny : Nat) : Int) 4294967295 = (((minus + bo + ny) % 4294967296 : Nat) : Int)) := Lib.hid (and_low _ (by omega))
        go_wp2_with fail
        rw [hmxw.out, ep.out, al.out]
        rw [hnyw.out, eq.out]
        rw [aq.out, HD1.out, HD2.out, show ((plus + mx : Nat) : Int) / 4294967296 = (((plus + mx) / 4294967296 : Nat) : Int) by omega, show ((minus + bo + ny : Nat) : Int) / 4294967296 = (((minus + bo + ny) / 4294967296 : Nat) : Int) by omega]
        have F2 := F.put k (x := r) D4
        have HI2 := Lib.hid (Kn.comb_step (by have := F.len; omega) HI.out (p := plus + mx) (by rw [hmx.out, hx.out]) (q := minus + bo + ny) (by rw [hny.out, hy.out]) HD3.out)
        go_roundw
        case rel => exact ⟨k + 1, _, _, _, _, by omega, by go_num, rfl, rfl, rfl, hp2, hq2, D5, F2, HI2⟩
        case measure => simp [intOf]; omega
      · have hlt3 : decide (k < b.length) = false := by simp; omega
        have hy0 : Hid (b.getD k 0 = 0) := Lib.hid (by rw [List.getD_eq_getElem?_getD, List.getElem?_eq_none (by omega)]; rfl)
        obtain ⟨r, bo', D1, D2, D3, D4, D5⟩ := diff_word (plus + mx) (minus + bo)
        have HD1 := Lib.hid D1
        have HD2 := Lib.hid D2
        have HD3 := Lib.hid D3
        clear D1 D2 D3
        have hp2 : (plus + mx) / 4294967296 < 4294967296 := by omega
        have hq2 : (minus + bo) / 4294967296 < 4294967296 := by omega
        have ep : Hid (IntKind.u64.wrap ((plus : Int) + (mx : Int)) = ((plus + mx : Nat) : Int)) := Lib.hid (by rw [← Int.natCast_add]; exact wrap_nat (by omega))
        have al : Hid (bits BinOp.and IntKind.u64 ((plus + mx : Nat) : Int) 4294967295 = (((plus + mx) % 4294967296 : Nat) : Int)) := Lib.hid (and_low _ (by omega))
        have aq : Hid (bits BinOp.and IntKind.u64 ((minus + bo : Nat) : Int) 4294967295 = (((minus + bo) % 4294967296 : Nat) : Int)) := Lib.hid (and_low _ (by omega))
        go_wp2_with fail
        rw [hmxw.out, ep.out, al.out]
        rw [show (minus : Int) + (bo : Int) = ((minus + bo : Nat) : Int) by omega]
        rw [aq.out, HD1.out, HD2.out, show ((plus + mx : Nat) : Int) / 4294967296 = (((plus + mx) / 4294967296 : Nat) : Int) by omega, show ((minus + bo : Nat) : Int) / 4294967296 = (((minus + bo) / 4294967296 : Nat) : Int) by omega]
        have F2 := F.put k (x := r) D4
        have HI2 := Lib.hid (Kn.comb_step (by have := F.len; omega) HI.out (p := plus + mx) (by rw [hmx.out, hx.out]) (q := minus + bo) (by rw [hy0.out, Nat.mul_zero, Nat.add_zero]) HD3.out)
        go_roundw
        case rel => exact ⟨k + 1, _, _, _, _, by omega, by go_num, rfl, rfl, rfl, hp2, hq2, D5, F2, HI2⟩
        case measure => simp [intOf]; omega
    · obtain rfl : k = a.length := by omega
      have HV : Hid (Kn.val vs = m * Kn.val a - n * Kn.val b) := Lib.hid (Kn.comb_end F.wd F.len HI.out HLE.out HLT.out)
      have hvl := F.len
      have HVL := Lib.hid hvl
      have hT := trim_any (some ⟨w.heap.size, 0, none⟩) a.length vs _ _ F.sl (by omega)
      rw [hvl] at hT
      have HT := Lib.hid hT
      clear hvl hT
      go_wp2_with fail
      refine HT.out.mono ?_
      rintro e w' ⟨rfl, rfl⟩
      go_wp2_with fail
      go_ret
      exact F.mag HV.out

set_option maxHeartbeats 400000 in
theorem subtractWords_any (A : Option Addr) (ca : Nat) (a : List Nat) (B : Option Addr) (cb : Nat) (b : List Nat) (w : World) (ha : Sl w w.heap.size A ca a) (hb : Sl w w.heap.size B cb b) (hla : a.length ≤ 999999999) (hlb : b.length ≤ 999999999) (hle : Kn.val b ≤ Kn.val a) :
    Calls Tryd.prog 28 #[.slice A a.length ca, .slice B b.length cb] w (MagRes (Kn.val a - Kn.val b) w) := by
  have h := combine_any 1 A ca a 1 B cb b w ha hb hla hlb (by decide) (by decide) (by omega) (by have := Kn.val_lt ha.wd; omega)
  rw [Nat.one_mul, Nat.one_mul] at h
  have H := Lib.hid h
  clear h
  clear hle
  go_enter Tryd.func28, Tryd.ntmps28
  go_wp2_with fail
  refine H.out.mono ?_
  rintro e w' ⟨A', c', rfl, hS, hB⟩
  go_wp2_with fail
  go_ret
  exact ⟨A', c', rfl, hS, hB⟩
end Go.Proofs.YtmhfdmidaheoeaaDoor
