/- Walks: Next. -/
import Derived.Test.YtckenemkfegopaaDoorW6
import Derived.Test.YtckenemkfegopaaDoorLib
import Derived.Lib.LaidTab
import Derived.Shelf.Strconv.Itoa3
namespace Go.Proofs.YtckenemkfegopaaDoor
open Go.RowKit
set_option linter.unusedVariables false

/-- the library's tables, as start-up lays them -/
structure Tabs (w : World) : Prop where
  tz : TabAt 2 Lib.deBruijn64tab w
  pw : Lib.TabIs Tryd.prog w "internal/strconv.uint64pow10" .u64 Lib.pow10Tab
  h1 : 2 < w.heap.size
  h2 : 3 < w.heap.size

theorem gPow : Tryd.prog.globalNamed "internal/strconv.uint64pow10" = some 3 := by kernel_rfl
theorem Tabs.below {w w' : World} (h : Tabs w) (hb : Below w.heap.size w w') : Tabs w' where
  tz j hj := (hb.cell (p := ⟨2, j, none⟩) h.h1).trans (h.tz j hj)
  pw := var?_below hb gPow h.h2 h.pw
  h1 := Nat.lt_of_lt_of_le h.h1 hb.size
  h2 := Nat.lt_of_lt_of_le h.h2 hb.size

theorem ctz_low (x : Nat) (hx : x < 2 ^ 64) (h0 : x ≠ 0) : Lib.ctz 64 x < 64 ∧ x.testBit (Lib.ctz 64 x) = true ∧ ∀ j, j < Lib.ctz 64 x → x.testBit j = false := by
  obtain ⟨m, hm, hk⟩ := Lib.ctzFrom_spec 64 x (by omega) hx
  have e : Lib.ctz 64 x = Lib.ctzFrom 64 x := by simp [Lib.ctz, h0]
  rw [e]
  exact ⟨hk, Kb.low_bit x _ m hm⟩

theorem next_step {f0 k x y : Nat} {ws : List Nat} (hinv : Hid (∀ i, f0 ≤ i → i < 64 * k → Kb.bitAt ws i = false)) (hk : f0 / 64 ≤ k) (hx : Hid (x = ws.getD k 0 ∧ x < 2 ^ 64)) (hy : Hid (y = Kb.maskW f0 k x)) (h0 : Hid (y = 0)) :
    ∀ i, f0 ≤ i → i < 64 * (k + 1) → Kb.bitAt ws i = false := fun i a b => by
  by_cases h : i < 64 * k
  · exact hinv.out i a h
  · refine Kb.maskW_zero f0 k ws hk ?_ i a (by omega)
    rw [← hx.out.1, ← hy.out]; exact h0.out
theorem next_found {n f0 k x y : Nat} {ws : List Nat} (hok : Kb.Ok n ws) (hinv : Hid (∀ i, f0 ≤ i → i < 64 * k → Kb.bitAt ws i = false)) (hk : f0 / 64 ≤ k) (hx : Hid (x = ws.getD k 0 ∧ x < 2 ^ 64)) (hy : Hid (y = Kb.maskW f0 k x))
    (hct : Lib.ctz 64 y < 64 ∧ y.testBit (Lib.ctz 64 y) = true ∧ ∀ j, j < Lib.ctz 64 y → y.testBit j = false) : Kb.nextFrom (Kb.bitAt ws) n f0 = ((64 * k + Lib.ctz 64 y : Nat) : Int) := by
  have e : y = Kb.maskW f0 k (ws.getD k 0) := by rw [← hx.out.1]; exact hy.out
  refine Kb.maskW_some hok f0 k _ hk hinv.out hct.1 ?_ fun j hj => ?_
  · rw [← e]; exact hct.2.1
  · rw [← e]; exact hct.2.2 j hj

set_option maxRecDepth 100000 in
set_option maxHeartbeats 400000 in
theorem next_ok (n : Nat) (A : Option Addr) (c : Nat) (ws : List Nat) (i : Int) (w : World) (h : Words w w.heap.size A ws) (hok : Kb.Ok n ws) (hn : n ≤ 4096) (hi : -9223372036854775808 ≤ i) (ht : Tabs w) :
    Calls Tryd.prog 90 #[setV n A ws.length c, .int .i64 i] w fun e w' => e = .returned (.int .i64 (Kb.nextFrom (Kb.bitAt ws) n (i + 1).toNat)) ∧ Below w.heap.size w w' := by
  have hl : ws.length ≤ 64 := by rw [hok.len]; unfold Kb.nw; omega
  have hv : Hid (Kb.validB n ws = true) := Lib.hid ((Kb.validB_iff h.lt).2 ⟨by omega, by omega, hok⟩)
  unfold setV
  by_cases hin : (n : Int) ≤ i
  · have hend : Hid (Kb.nextFrom (Kb.bitAt ws) n (i + 1).toNat = -1) := Lib.hid (Kb.nextFrom_none _ _ _ fun j a b => by omega)
    go_enter Tryd.func90, Tryd.ntmps90
    go_wp2_with fail
    have hX := h.alloc (Nat.le_refl _) (.cells #[.int .i64 (n : Int), .slice A ws.length c] 46)
    refine (bvalid_any n A c ws _ (hX.more (by simp)) (by omega)).mono ?_
    rintro e w1 ⟨rfl, hb⟩
    rw [hv.out]
    have t1 : Two w1 w.heap.size (.int .i64 (n : Int)) (.slice A ws.length c) := (Two.new_ _ _ _ _).below hb (by simp)
    have c10 := t1.c0
    go_wp2_with fail
    go_ret
    exact ⟨ret_int hend.out.symm, ((Below.refl _ _).alloc (Nat.le_refl _) _).trans (hb.mono (by simp))⟩
  · obtain ⟨f0, hf⟩ : ∃ f0 : Nat, f0 = (i + 1).toNat := ⟨_, rfl⟩
    have hf1 : f0 ≤ n := by omega
    have hmax : max (i + 1) 0 = (f0 : Int) := by omega
    have hF := Lib.hid hf
    clear hf
    go_enter Tryd.func90, Tryd.ntmps90
    go_wp2_with fail
    have hX := h.alloc (Nat.le_refl _) (.cells #[.int .i64 (n : Int), .slice A ws.length c] 46)
    refine (bvalid_any n A c ws _ (hX.more (by simp)) (by omega)).mono ?_
    rintro e w1 ⟨rfl, hb⟩
    rw [hv.out]
    have t1 : Two w1 w.heap.size (.int .i64 (n : Int)) (.slice A ws.length c) := (Two.new_ _ _ _ _).below hb (by simp)
    have hB : Below w.heap.size w w1 := ((Below.refl _ _).alloc (Nat.le_refl _) _).trans (hb.mono (by simp))
    have hT := ht.below hB
    have c10 := t1.c0
    have c11 := t1.c1
    go_wp2_with fail
    go_loop [6] (fun kv => ∃ k : Nat, f0 / 64 ≤ k ∧ k ≤ 65 ∧ kv = .int .i64 k ∧ Hid (∀ i, f0 ≤ i → i < 64 * k → Kb.bitAt ws i = false)) (fun kv => 65 - (intOf kv).toNat)
    case atStart => exact ⟨f0 / 64, Nat.le_refl _, by omega, by go_num, Lib.hid (fun i a b => by omega)⟩
    case round =>
      obtain ⟨k, hk1, hk2, rfl, hinv⟩ := hrel
      by_cases hlt : k < ws.length
      · obtain ⟨b, off, x, rfl, hbb, hc, hx⟩ := (h.below hB).at_ hlt
        obtain ⟨y, hy⟩ : ∃ y : Nat, Hid (y = Kb.maskW f0 k x) := ⟨_, Lib.hid rfl⟩
        have hyx : Hid (y < 2 ^ 64) := Lib.hid (by rw [hy.out]; exact Nat.lt_of_le_of_lt (Kb.maskW_le _ _ _) hx.out.2)
        have hyE : Hid (k = f0 / 64 → IntKind.u64.wrap ((x : Int) / 2 ^ (f0 % 64) * 2 ^ (f0 % 64)) = (y : Int)) := Lib.hid (fun e => by
          have h1 : y = x / 2 ^ (f0 % 64) * 2 ^ (f0 % 64) := by rw [hy.out]; unfold Kb.maskW; rw [if_pos e]
          have h2 : ((x : Int) / 2 ^ (f0 % 64) * 2 ^ (f0 % 64)) = ((x / 2 ^ (f0 % 64) * 2 ^ (f0 % 64) : Nat) : Int) := by
            rw [Int.natCast_mul, Int.natCast_ediv, Int.natCast_pow]; rfl
          rw [h2, ← h1]; exact wrap_nat hyx.out)
        have hyN : Hid (k ≠ f0 / 64 → x = y) := Lib.hid (fun e => by rw [hy.out]; unfold Kb.maskW; rw [if_neg e])
        have hm0 : (0 : Int) ≤ (f0 : Int) % 64 := by omega
        have hm1 : (f0 : Int) % 64 ≤ 64 := by omega
        by_cases hke : k = f0 / 64
        · have hk2' : ((k : Int) == (f0 : Int) / 64) = true := by simp; omega
          have hE := hyE.out hke
          have hKE := Lib.hid hke
          clear hke
          by_cases hy0 : y = 0
          · have hyb : ((y : Int) != 0) = false := by simp; omega
            have hY := Lib.hid hy0
            clear hy0
            go_wp2_with fail
            go_round
            case rel => exact ⟨k + 1, by omega, by omega, by go_num, Lib.hid (next_step hinv hk1 hx hy hY)⟩
            case measure => simp [intOf]; omega
          · have hyb : ((y : Int) != 0) = true := by simp; omega
            have hY := Lib.hid hy0
            clear hy0
            go_wp2_with fail
            refine (trailingZeros y hyx.out w1 (fun _ => hT.tz)).mono ?_
            rintro e w' ⟨rfl, hw⟩
            subst hw
            go_wp2_with fail
            go_ret
            have hct := ctz_low y hyx.out hY.out
            refine ⟨ret_int ?_, hB⟩
            rw [← hF.out, next_found hok hinv hk1 hx hy hct]
            have := hct.1
            first | omega | (unfold wrap64; omega)
        · have hk2' : ((k : Int) == (f0 : Int) / 64) = false := by simp; omega
          have hxy := hyN.out hke
          subst hxy
          clear hke
          by_cases hy0 : x = 0
          · have hyb : ((x : Int) != 0) = false := by simp; omega
            have hY := Lib.hid hy0
            clear hy0
            go_wp2_with fail
            go_round
            case rel => exact ⟨k + 1, by omega, by omega, by go_num, Lib.hid (next_step hinv hk1 hx hy hY)⟩
            case measure => simp [intOf]; omega
          · have hyb : ((x : Int) != 0) = true := by simp; omega
            have hY := Lib.hid hy0
            clear hy0
            go_wp2_with fail
            refine (trailingZeros x hyx.out w1 (fun _ => hT.tz)).mono ?_
            rintro e w' ⟨rfl, hw⟩
            subst hw
            go_wp2_with fail
            go_ret
            have hct := ctz_low x hyx.out hY.out
            refine ⟨ret_int ?_, hB⟩
            rw [← hF.out, next_found hok hinv hk1 hx hy hct]
            have := hct.1
            first | omega | (unfold wrap64; omega)
      · have hend : Hid (Kb.nextFrom (Kb.bitAt ws) n (i + 1).toNat = -1) := Lib.hid (by
          rw [← hF.out]
          refine Kb.nextFrom_none _ _ _ fun j a b => hinv.out j a ?_
          have := hok.len; unfold Kb.nw at this; omega)
        go_wp2_with fail
        go_ret
        exact ⟨ret_int hend.out.symm, hB⟩
end Go.Proofs.YtckenemkfegopaaDoor
