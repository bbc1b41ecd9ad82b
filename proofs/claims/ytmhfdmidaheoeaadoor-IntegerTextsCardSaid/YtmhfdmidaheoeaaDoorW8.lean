/- Walks: multiplyWords. -/
import Derived.Test.YtmhfdmidaheoeaaDoorW7
namespace Go.Proofs.YtmhfdmidaheoeaaDoor
open Go.RowKit
set_option linter.unusedVariables false

set_option maxRecDepth 100000 in
set_option maxHeartbeats 2000000 in
theorem multiplyWords_any (A : Option Addr) (ca : Nat) (a : List Nat) (B : Option Addr) (cb : Nat) (b : List Nat) (w : World) (ha : Sl w w.heap.size A ca a) (hb : Sl w w.heap.size B cb b) (hla : a.length ≤ 99999999) (hlb : b.length ≤ 99999999) :
    Calls Tryd.prog 38 #[.slice A a.length ca, .slice B b.length cb] w (MagRes (Kn.val a * Kn.val b) w) := by
  have hmk := makeU32 (a.length + b.length) (by omega) (((a.length : Nat) : Int) + ((b.length : Nat) : Int)) (by omega)
  have e1 : (((a.length : Nat) : Int) + ((b.length : Nat) : Int)).toNat = a.length + b.length := by omega
  go_enter Tryd.func38, Tryd.ntmps38
  go_wp2_with fail
  have F0 := FillW.new_ w (a.length + b.length)
  revert F0
  generalize w.alloc (.cells (ncells .u32 (List.replicate (a.length + b.length) 0)) 39) = w1
  intro F0
  clear hmk
  go_loopw [20] (fun iv wr => ∃ k vs, k ≤ a.length ∧ iv = .int .i64 (k : Nat) ∧ FillW w wr w.heap.size (a.length + b.length) vs ∧
    Hid (Kn.val vs = Kn.val (a.take k) * Kn.val b ∧ ∀ t, k + b.length ≤ t → vs.getD t 0 = 0)) (fun iv _ => a.length - (intOf iv).toNat)
  case atStart => exact ⟨0, _, Nat.zero_le _, rfl, F0, Lib.hid ⟨by rw [Kn.val_zeros]; simp [Kn.val], fun t _ => by rw [List.getD_eq_getElem?_getD, List.getElem?_replicate]; split <;> rfl⟩⟩
  case round =>
    obtain ⟨k, vs, hk, rfl, F, HI⟩ := hrel
    by_cases hlt : k < a.length
    · obtain ⟨b1, o1, x, rfl, hb1, hc1, hx, hxl⟩ := (ha.below F.bel).word hlt
      have hne : ¬ (a.length + b.length = k) := by omega
      have e2 : (((k : Nat) : Int) + ((b.length : Nat) : Int)).toNat = k + b.length := by omega
      go_wp2_with fail
      obtain ⟨wo, rfl⟩ : ∃ wo : World, wo = wr := ⟨_, rfl⟩
      go_loopw [8, 34] (fun cv jv wi => ∃ j cr us, j ≤ b.length ∧ jv = .int .i64 (j : Nat) ∧ cv = .int .u64 (cr : Nat) ∧ cr < 4294967296 ∧ FillW w wi w.heap.size (a.length + b.length) us ∧
        Hid (Kn.val us + Kn.pw (k + j) * cr = Kn.val vs + Kn.pw k * (x * Kn.val (b.take j)) ∧ ∀ t, k + j ≤ t → us.getD t 0 = vs.getD t 0)) (fun _ jv _ => b.length - (intOf jv).toNat)
      case atStart => exact ⟨0, 0, vs, Nat.zero_le _, rfl, rfl, by omega, F, Lib.hid ⟨by simp [Kn.val], fun _ _ => rfl⟩⟩
      case round =>
        obtain ⟨j, cr, us, hj, rfl, rfl, hcr, G, HJ⟩ := hrel
        by_cases hltj : j < b.length
        · obtain ⟨b2, o2, y, rfl, hb2, hc2, hy, hyl⟩ := (hb.below G.bel).word hltj
          have hcg := G.row.cell (k := k + j) (by have := G.len; omega)
          have hfg := G.row.frozen (k + j)
          obtain ⟨u, hu⟩ : ∃ u : Nat, Hid (u = us.getD (k + j) 0) := ⟨_, Lib.hid rfl⟩
          have hul : u < 4294967296 := by rw [hu.out]; exact G.wd.getD _
          rw [← hu.out] at hcg
          obtain ⟨xy, hxy⟩ : ∃ xy : Nat, Hid (xy = x * y) := ⟨_, Lib.hid rfl⟩
          have hxyl : xy ≤ 18446744065119617025 := by rw [hxy.out]; exact Nat.le_trans (Nat.mul_le_mul (show x ≤ 4294967295 by omega) (show y ≤ 4294967295 by omega)) (by decide)
          have hxyw : Hid (IntKind.u64.wrap ((x : Int) * (y : Int)) = (xy : Int)) := Lib.hid (by rw [← Int.natCast_mul, ← hxy.out]; exact wrap_nat (by omega))
          go_wp2_with fail
          have hs1 : xy + u ≤ 18446744069414584320 := by omega
          have hs2 : cr + (xy + u) ≤ 18446744073709551615 := by omega
          rw [hxyw.out, show (xy : Int) + (u : Int) = ((xy + u : Nat) : Int) by omega, wrap_nat (n := xy + u) (by omega), show (cr : Int) + ((xy + u : Nat) : Int) = ((cr + (xy + u) : Nat) : Int) by omega, wrap_nat (n := cr + (xy + u)) (by omega),
            show ((cr + (xy + u) : Nat) : Int) / 4294967296 = (((cr + (xy + u)) / 4294967296 : Nat) : Int) by omega, show ((cr + (xy + u) : Nat) : Int) % 4294967296 = (((cr + (xy + u)) % 4294967296 : Nat) : Int) by omega]
          have G2 := G.put (k + j) (x := (cr + (xy + u)) % 4294967296) (by omega)
          have hq : (cr + (xy + u)) / 4294967296 < 4294967296 := by omega
          have HJ2 : Hid (Kn.val (us.set (k + j) ((cr + (xy + u)) % 4294967296)) + Kn.pw (k + (j + 1)) * ((cr + (xy + u)) / 4294967296) = Kn.val vs + Kn.pw k * (x * Kn.val (b.take (j + 1))) ∧ ∀ t, k + (j + 1) ≤ t → (us.set (k + j) ((cr + (xy + u)) % 4294967296)).getD t 0 = vs.getD t 0) := Lib.hid (by
            have hl := G.len
            refine ⟨Kn.mul_step (by omega) HJ.out.1 (by rw [hxy.out, hu.out, hy.out]; omega), fun t ht => ?_⟩
            rw [Kn.getD_set _ _ _ _ (by omega), if_neg (by omega)]
            exact HJ.out.2 t (by omega))
          go_roundw
          case rel => exact ⟨j + 1, _, _, by omega, by go_num, rfl, hq, G2, HJ2⟩
          case measure => simp [intOf]; omega
        · obtain rfl : j = b.length := by omega
          have hcg := G.row.cell (k := k + b.length) (by have := G.len; omega)
          have hfg := G.row.frozen (k + b.length)
          have hw : (cr : Int) % 4294967296 = (cr : Int) := by omega
          have e3 : (((k : Nat) : Int) + ((b.length : Nat) : Int)).toNat = k + b.length := by omega
          have G2 := G.put (k + b.length) (x := cr) hcr
          have HI2 : Hid (Kn.val (us.set (k + b.length) cr) = Kn.val (a.take (k + 1)) * Kn.val b ∧ ∀ t, k + 1 + b.length ≤ t → (us.set (k + b.length) cr).getD t 0 = 0) := Lib.hid (by
            have hl := G.len
            refine ⟨Kn.mul_end hx.out HI.out.1 (by omega) (by rw [HJ.out.2 _ (Nat.le_refl _)]; exact HI.out.2 _ (Nat.le_refl _)) HJ.out.1, fun t ht => ?_⟩
            rw [Kn.getD_set _ _ _ _ (by omega), if_neg (by omega), HJ.out.2 t (by omega)]
            exact HI.out.2 t (by omega))
          go_wp2_with fail
          go_roundw
          case rel => exact ⟨k + 1, _, by omega, by go_num, G2, HI2⟩
          case measure => simp [intOf]; omega
    · obtain rfl : k = a.length := by omega
      have HV : Hid (Kn.val vs = Kn.val a * Kn.val b) := Lib.hid (by have := HI.out.1; rwa [List.take_of_length_le (Nat.le_refl _)] at this)
      have hvl := F.len
      have HVL := Lib.hid hvl
      have hT := trim_any (some ⟨w.heap.size, 0, none⟩) (a.length + b.length) vs _ _ F.sl (by omega)
      rw [hvl] at hT
      have HT := Lib.hid hT
      clear hvl hT
      go_wp2_with fail
      refine HT.out.mono ?_
      rintro e w' ⟨rfl, rfl⟩
      go_wp2_with fail
      go_ret
      exact F.mag HV.out
end Go.Proofs.YtmhfdmidaheoeaaDoor
