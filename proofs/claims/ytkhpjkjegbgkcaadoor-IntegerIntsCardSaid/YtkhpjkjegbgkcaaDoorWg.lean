/- Walks: Bits of both, the reference's Valid. -/
import Derived.Test.YtkhpjkjegbgkcaaDoorWc
import Derived.Test.YtkhpjkjegbgkcaaDoorShelf
namespace Go.Proofs.YtkhpjkjegbgkcaaDoor
open Go.RowKit
set_option linter.unusedVariables false

/-- the number of bits of a row without zeros at its end -/
def bitsOf (l : List Nat) : Nat := if l.length = 0 then 0 else 32 * (l.length - 1) + Lib.bitLen (l.getD (l.length - 1) 0)

set_option maxHeartbeats 400000 in
theorem rvalid_any (neg : Bool) (A : Option Addr) (c : Nat) (ws : List Nat) (w : World) (h : Sl w w.heap.size A c ws) (hl : ws.length ≤ 1000000000) :
    Calls Tryd.prog 19 #[intV neg A ws.length c] w fun e w' => e = .returned (.bool (vld neg ws)) ∧ Below w.heap.size w w' := by
  unfold intV
  by_cases h0 : ws.length = 0
  · have hm0 : ((ws.length : Int) == 0) = true := by simp [h0]
    have H0 := Lib.hid h0
    clear h0
    go_enter Tryd.func19, Tryd.ntmps19
    go_wp2
    go_ret
    exact ⟨ret_bool (by unfold vld; rw [if_pos H0.out]), (Below.refl _ _).alloc (Nat.le_refl _) _⟩
  · have hm0 : ((ws.length : Int) == 0) = false := beq_eq_false_iff_ne.2 (by omega)
    have hp : 0 < ws.length := by omega
    have H0 := Lib.hid h0
    clear h0
    have hX := h.alloc (Nat.le_refl _) (.cells #[.bool neg, .slice A ws.length c] 24)
    obtain ⟨b, off, x, rfl, hb, hc, hx, hx2⟩ := hX.word (k := ws.length - 1) (by omega)
    have e1 : ((ws.length : Int) - 1).toNat = ws.length - 1 := by omega
    have e2 : (0 : Int) ≤ (ws.length : Int) - 1 := by omega
    go_enter Tryd.func19, Tryd.ntmps19
    go_wp2
    go_ret
    exact ⟨ret_bool (by unfold vld; rw [if_neg H0.out, ← hx.out, bne]; congr 1; rw [Bool.eq_iff_iff]; simp), (Below.refl _ _).alloc (Nat.le_refl _) _⟩

set_option maxRecDepth 100000 in
set_option maxHeartbeats 400000 in
theorem bits_any (neg : Bool) (A : Option Addr) (c : Nat) (ws : List Nat) (w : World) (h : Sl w w.heap.size A c ws) (hl : ws.length ≤ 1000000) :
    Calls Tryd.prog 22 #[intV neg A ws.length c] w fun e w' => e = .returned (.int .i64 (bitsOf (Kn.dig (Kn.val ws)) : Nat)) ∧ Below w.heap.size w w' := by
  have hdl := Nat.le_trans (Kn.dig_len_val h.wd) hl
  have hX := h.alloc (Nat.le_refl _) (.cells #[.bool neg, .slice A ws.length c] 24)
  have hD := hX.trim
  have HT : Hid (∀ W, Sl W w.heap.size A c ws → Calls Tryd.prog 57 #[.slice A ws.length c] W fun e w' => e = .returned (.slice A (Kn.dig (Kn.val ws)).length c) ∧ W = w') := Lib.hid (fun W h => trim_any A c ws W _ h (by omega))
  revert hD hdl HT
  generalize Kn.dig (Kn.val ws) = l
  intro hdl hD HT
  unfold intV
  by_cases h0 : l.length = 0
  · have hm0 : ((l.length : Int) == 0) = true := by simp [h0]
    have hb : Hid (bitsOf l = 0) := Lib.hid (by unfold bitsOf; rw [if_pos h0])
    have H0 := Lib.hid h0
    clear h0
    go_enter Tryd.func22, Tryd.ntmps22
    go_wp2_with (go_at_call 57; refine (HT.out _ hX).mono ?_; rintro e w' ⟨rfl, rfl⟩)
    go_ret
    exact ⟨ret_int (by rw [hb.out]; rfl), (Below.refl _ _).alloc (Nat.le_refl _) _⟩
  · have hm0 : ((l.length : Int) == 0) = false := beq_eq_false_iff_ne.2 (by omega)
    have hp : 0 < l.length := by omega
    obtain ⟨b, off, x, rfl, hbb, hc, hx, hx2⟩ := hD.word (k := l.length - 1) (by omega)
    have hb : Hid (bitsOf l = 32 * (l.length - 1) + Lib.bitLen x) := Lib.hid (by unfold bitsOf; rw [if_neg h0, hx.out])
    have H0 := Lib.hid h0
    clear h0
    have e1 : ((l.length : Int) - 1).toNat = l.length - 1 := by omega
    have e2 : (0 : Int) ≤ (l.length : Int) - 1 := by omega
    obtain ⟨k, hk⟩ : ∃ k, Hid (k = Lib.bitLen x) := ⟨_, Lib.hid rfl⟩
    have hk2 : k ≤ 64 := by rw [hk.out]; exact Lib.bitLen_le x 64 (by decide) (by omega)
    have HL : Hid (∀ W, Calls Tryd.prog 61 #[.int .u32 (x : Int)] W fun e w' => e = .returned (.int .i64 (k : Int)) ∧ W = w') := Lib.hid (fun W => by
      have := Tryd.bits_Len32 (x : Int) W (by omega) (by omega)
      rw [hk.out]
      exact this.mono fun e w' ⟨he, hw⟩ => ⟨by rw [he]; simp, hw.symm⟩)
    go_enter Tryd.func22, Tryd.ntmps22
    go_wp2_with (first
      | (go_at_call 57; refine (HT.out _ hX).mono ?_; rintro e w' ⟨rfl, rfl⟩)
      | (go_at_call 61; refine (HL.out _).mono ?_; rintro e w' ⟨rfl, rfl⟩))
    go_ret
    exact ⟨ret_int (by rw [hb.out, ← hk.out]; omega), (Below.refl _ _).alloc (Nat.le_refl _) _⟩

set_option maxRecDepth 100000 in
set_option maxHeartbeats 400000 in
theorem rbits_any (neg : Bool) (A : Option Addr) (c : Nat) (ws : List Nat) (w : World) (h : Sl w w.heap.size A c ws) (hl : ws.length ≤ 1000000) :
    Calls Tryd.prog 23 #[intV neg A ws.length c] w fun e w' => e = .returned (.int .i64 (bitsOf (Kn.dig (Kn.val ws)) : Nat)) ∧ Below w.heap.size w w' := by
  have hdl := Nat.le_trans (Kn.dig_len_val h.wd) hl
  have hX := (h.alloc (Nat.le_refl _) (.cells #[.bool neg, .slice A ws.length c] 24)).more (B' := (w.alloc (.cells #[.bool neg, .slice A ws.length c] 24)).heap.size) (by simp)
  have hB0 := al1 w (.cells #[.bool neg, .slice A ws.length c] 24)
  have HT : Hid (∀ W, Sl W W.heap.size A c ws → Calls Tryd.prog 60 #[.slice A ws.length c] W (MagRes (Kn.val ws) W)) := Lib.hid (fun W h => rtrim_any A c ws W h (by omega))
  unfold MagRes at HT
  revert hdl HT
  generalize Kn.dig (Kn.val ws) = l
  intro hdl HT
  obtain ⟨T, hT⟩ : ∃ T, T = bitsOf l := ⟨_, rfl⟩
  rw [← hT]
  have HTT := Lib.hid hT
  clear hT
  unfold intV
  go_enter Tryd.func23, Tryd.ntmps23
  go_wp2_with fail
  refine (HT.out _ hX).mono ?_
  rintro e w2 ⟨A2, c2, rfl, hD, hb2⟩
  have hB : Below w.heap.size w w2 := hB0.trans (hb2.mono hB0.size)
  clear hX hB0 hb2
  by_cases h0 : l.length = 0
  · have hm0 : ((l.length : Int) == 0) = true := by simp [h0]
    have hb : Hid (bitsOf l = 0) := Lib.hid (by unfold bitsOf; rw [if_pos h0])
    have H0 := Lib.hid h0
    clear h0
    go_wp2_with fail
    go_ret
    exact ⟨ret_int (by rw [HTT.out, hb.out]; rfl), hB⟩
  · have hm0 : ((l.length : Int) == 0) = false := beq_eq_false_iff_ne.2 (by omega)
    have hp : 0 < l.length := by omega
    obtain ⟨b, off, x, rfl, hbb, hc, hx, hx2⟩ := hD.word (k := l.length - 1) (by omega)
    have hb : Hid (bitsOf l = 32 * (l.length - 1) + Lib.bitLen x) := Lib.hid (by unfold bitsOf; rw [if_neg h0, hx.out])
    have H0 := Lib.hid h0
    clear h0
    have e1 : ((l.length : Int) - 1).toNat = l.length - 1 := by omega
    have e2 : (0 : Int) ≤ (l.length : Int) - 1 := by omega
    have hk2 : Lib.bitLen x ≤ 64 := Lib.bitLen_le x 64 (by decide) (by omega)
    have hTb : T ≤ 32 * l.length + 64 := by rw [HTT.out, hb.out]; omega
    have hbT : Hid (T = 32 * (l.length - 1) + Lib.bitLen x) := Lib.hid (by rw [HTT.out, hb.out])
    go_wp2_with fail
    go_loop [4, 5] (fun nv tv => ∃ n t : Nat, nv = .int .i64 (n : Nat) ∧ tv = .int .u32 (t : Nat) ∧ t < 4294967296 ∧ n ≤ T ∧ Hid (n + Lib.bitLen t = T)) (fun _ tv => (intOf tv).toNat)
    case atStart => exact ⟨32 * (l.length - 1), x, by go_num, rfl, hx2, by rw [hbT.out]; omega, Lib.hid hbT.out.symm⟩
    case round =>
      obtain ⟨n, t, rfl, rfl, htl, hn, HN⟩ := hrel
      by_cases ht0 : t = 0
      · have HF : Hid (n = T) := Lib.hid (by have := HN.out; rw [ht0, show Lib.bitLen 0 = 0 by decide] at this; omega)
        subst ht0
        go_wp2_with fail
        go_ret
        exact ⟨ret_int (by rw [HF.out]), hB⟩
      · have htp : 0 < t := by omega
        have hh := Lib.bitLen_half t ht0 (by omega)
        obtain ⟨u, hu⟩ : ∃ u, u = t / 2 := ⟨_, rfl⟩
        rw [← hu] at hh
        have HN2 : Hid (n + 1 + Lib.bitLen u = T) := Lib.hid (by have := HN.out; omega)
        have hn1 : n + 1 ≤ T := by have := HN.out; omega
        have ht2 : (t : Int) / 2 = (u : Int) := by omega
        have hul : u < t := by omega
        have HU := Lib.hid hu
        have hHH := Lib.hid hh
        clear hh ht0 hu
        go_wp2_with fail
        go_round
        case rel => exact ⟨n + 1, u, by go_num, rfl, by omega, hn1, HN2⟩
        case measure => simp [intOf]; omega
end Go.Proofs.YtkhpjkjegbgkcaaDoor
