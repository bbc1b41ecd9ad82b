/- Walks: the reference's Text. -/
import Derived.Test.YtmhfdmidaheoeaaDoorE1
import Derived.Test.YtmhfdmidaheoeaaDoorD2
import Derived.Test.YtmhfdmidaheoeaaDoorT5
import Derived.Test.YtmhfdmidaheoeaaDoorTx
namespace Go.Proofs.YtmhfdmidaheoeaaDoor
open Go.RowKit
set_option linter.unusedVariables false

theorem dig_piece : ∀ n : Fin 10, (⟨#[48, 49, 50, 51, 52, 53, 54, 55, 56, 57]⟩ : ByteArray).extract n.1 (n.1 + 1) = ⟨#[UInt8.ofNat (48 + n.1)]⟩ := by decide
/-- the digits of a number, none for zero -/
def dS (n : Nat) : List UInt8 := if n = 0 then [] else Lib.decDigits n
theorem dS_pos {n : Nat} (h : 0 < n) : dS n = Lib.decDigits n := if_neg (by omega)
theorem dS_zero : dS 0 = [] := rfl
theorem dS_step {n : Nat} (h : 0 < n) : dS n = dS (n / 10) ++ [UInt8.ofNat (48 + n % 10)] := by
  rw [dS_pos h]
  by_cases hn : n < 10
  · rw [Kt.dec_small hn, show n / 10 = 0 by omega, dS_zero, show n % 10 = n by omega]; rfl
  · rw [Kt.dec_big hn, dS_pos (by omega)]
theorem dig_ten : Kn.dig 10 = [10] := by
  rw [Kn.dig_pos (by decide), show 10 / 4294967296 = 0 by decide, Kn.dig_zero]
theorem dig_first {d : Nat} (h : d < 10) : d = (Kn.dig d).getD 0 0 := by
  by_cases h0 : d = 0
  · subst h0; rw [Kn.dig_zero]; rfl
  · rw [Kn.dig_pos h0]
    show d = d % 4294967296
    omega
theorem str_app (a b : List UInt8) : ((⟨a.toArray⟩ : ByteArray) ++ ⟨b.toArray⟩) = ⟨(a ++ b).toArray⟩ := ByteArray.ext (by rw [ByteArray.data_append]; simp)
/-- the world of the reference's Text -/
structure Ti (w wr : World) (nx : Bool) (A : Option Addr) (n ca : Nat) : Prop where
  t : Two wr w.heap.size (.bool nx) (.slice A n ca)
  bel : Below w.heap.size w wr
theorem Ti.below {w wr wx : World} {nx : Bool} {A : Option Addr} {n ca : Nat} (h : Ti w wr nx A n ca) (hb : Below wr.heap.size wr wx) : Ti w wx nx A n ca := ⟨h.t.below hb h.t.lt, h.bel.trans (hb.mono h.bel.size)⟩

set_option maxRecDepth 100000 in
set_option maxHeartbeats 4000000 in
theorem rtext_pos (nx : Bool) (A : Option Addr) (ca : Nat) (xs : List Nat) (w : World) (h : Sl w w.heap.size A ca xs) (hl : xs.length ≤ 99999) (h0 : 0 < Kn.val xs) (hd : (Lib.decDigits (Kn.val xs)).length ≤ 1000000) :
    Calls Tryd.prog 23 #[intV nx A xs.length ca] w fun e w' => e = .returned (.string ⟨(Lib.itoa (Kn.iv nx xs)).toArray⟩) ∧ Below w.heap.size w w' := by
  obtain ⟨T, hT⟩ : ∃ T : Nat, Hid (T = Kn.val xs) := ⟨_, Lib.hid rfl⟩
  have HTX := Lib.hid (fun (W : World) (h : Sl W W.heap.size A ca xs) => (by have := rtrim_any A ca xs W h (by omega); rwa [← hT.out] at this : Calls Tryd.prog 30 #[.slice A xs.length ca] W (MagRes T W)))
  have hTL : (Kn.dig T).length ≤ 99999 := by rw [hT.out]; exact Nat.le_trans (Kn.dig_len_val h.wd) hl
  rw [← hT.out] at h0 hd
  have hFin : Hid ((if nx then [45] else []) ++ Lib.decDigits T = Lib.itoa (Kn.iv nx xs)) := Lib.hid (by
    cases nx
    · have e : Kn.iv false xs = (T : Int) := by unfold Kn.iv; rw [hT.out]; simp
      rw [e, Lib.itoa_nonneg]; rfl
    · have e : Kn.iv true xs = -(T : Int) := by unfold Kn.iv; rw [hT.out]; simp
      rw [e, Lib.itoa_neg T h0]; rfl)
  obtain ⟨Z, hZ⟩ : ∃ Z : List UInt8, Hid (Z = Lib.itoa (Kn.iv nx xs)) := ⟨_, Lib.hid rfl⟩
  rw [← hZ.out] at hFin ⊢
  obtain ⟨D, hD⟩ : ∃ D : List UInt8, Hid (D = Lib.decDigits T) := ⟨_, Lib.hid rfl⟩
  rw [← hD.out] at hFin hd
  have hD0 : Hid (dS T ++ [] = D) := Lib.hid (by rw [List.append_nil, dS_pos h0, hD.out])
  have hdp := Kn.dig_len_pos.2 h0
  have gz : (((Kn.dig T).length : Int) == 0) = false := by rw [beq_eq_false_iff_ne]; omega
  clear hT hZ hD
  unfold intV
  go_enter Tryd.func23, Tryd.ntmps23
  go_wp2_with fail
  have i : Ti w (w.alloc (.cells #[.bool nx, .slice A xs.length ca] 24)) nx A xs.length ca := ⟨Two.new_ w (.bool nx) (.slice A xs.length ca) 24, al1 w _⟩
  have hX := (h.alloc (Nat.le_refl _) (.cells #[.bool nx, .slice A xs.length ca] 24)).more (B' := (w.alloc (.cells #[.bool nx, .slice A xs.length ca] 24)).heap.size) (by simp)
  revert i hX
  generalize w.alloc (.cells #[.bool nx, .slice A xs.length ca] 24) = w1
  intro i hX
  refine (HTX.out w1 hX).mono ?_
  rintro e w2 ⟨C, c, rfl, hC, hb⟩
  replace i := i.below hb
  clear hX hb
  go_wp2_with fail
  go_loopw [3, 4] (fun wv sv wr => ∃ N C c ss, wv = .slice C (Kn.dig N).length c ∧ sv = .string ⟨(ss : List UInt8).toArray⟩ ∧ Sl wr wr.heap.size C c (Kn.dig N) ∧ (Kn.dig N).length ≤ 99999 ∧ ss.length ≤ 1000000 ∧ Hid (dS N ++ ss = D) ∧ Ti w wr nx A xs.length ca) (fun wv _ wr => rdVal wr wv)
  case atStart => exact ⟨T, C, c, [], rfl, rfl, hC, hTL, by simp, hD0, i⟩
  case round =>
    clear i hC hTL hD0 hdp gz
    obtain ⟨N, C, c, ss, rfl, rfl, hC, hNL, hss, HS, i⟩ := hrel
    rcases Nat.eq_zero_or_pos N with hN | hN
    · subst hN
      have hfin : Hid ((if nx then [45] else []) ++ ss = Z) := Lib.hid (by rw [← hFin.out, ← HS.out, dS_zero]; rfl)
      clear hFin HS
      have c0 := i.t.c0
      have bel := i.bel
      rw [Kn.dig_zero]
      cases nx
      · go_wp2_with fail
        go_ret
        exact ⟨by rw [← hfin.out]; rfl, bel⟩
      · go_wp2_with fail
        go_ret
        refine ⟨?_, bel⟩
        rw [← hfin.out]
        have e := str_app [45] ss
        first | rw [e]; rfl | (exact congrArg _ e)
    · have hp := Kn.dig_len_pos.2 hN
      have g1 : decide ((0 : Int) < ((Kn.dig N).length : Int)) = true := by simp; omega
      have HST := Lib.hid (dS_step hN)
      obtain ⟨d, hd'⟩ : ∃ d, Hid (d = N % 10) := ⟨_, Lib.hid rfl⟩
      obtain ⟨Q, hQ'⟩ : ∃ Q, Hid (Q = N / 10) := ⟨_, Lib.hid rfl⟩
      have hd10 : d < 10 := by rw [hd'.out]; omega
      have hQN : Q < N := by rw [hQ'.out]; omega
      have hQL : (Kn.dig Q).length ≤ 99999 := Nat.le_trans (Kn.dig_len_le (Nat.lt_trans hQN Kn.dig_lt)) hNL
      have hdL : (Kn.dig d).length ≤ 1000 := Kn.dig_len_le (Nat.lt_of_lt_of_le hd10 (by rw [show (1000 : Nat) = 1 + 999 from rfl, Kn.pw_add]; exact Nat.le_trans (show 10 ≤ Kn.pw 1 by decide) (Nat.le_mul_of_pos_right _ (Kn.pw_pos _))))
      have HDV := Lib.hid (fun (W : World) (B1 : Option Addr) (d1 : Nat) (h1 : Sl W W.heap.size C c (Kn.dig N)) (h2 : Sl W W.heap.size B1 d1 [10]) => (by have := rdivWords_any N 10 C c B1 d1 W h1 (by rw [dig_ten]; exact h2) (by decide) (by omega) (by rw [dig_ten]; decide); rw [dig_ten] at this; rwa [← hQ'.out, ← hd'.out] at this : Calls Tryd.prog 31 #[.slice C (Kn.dig N).length c, .slice B1 1 d1] W (DivRes Q d W)))
      have HSN : Hid (dS Q ++ ([UInt8.ofNat (48 + d)] ++ ss) = D) := Lib.hid (by rw [← HS.out, HST.out, ← hd'.out, ← hQ'.out]; simp)
      have hsn : (UInt8.ofNat (48 + d) :: ss).length ≤ 1000000 := by
        have e := congrArg List.length HSN.out
        simp only [List.length_append, List.length_cons, List.length_nil] at e ⊢
        omega
      have HDF := Lib.hid (dig_first hd10)
      have hpc := dig_piece ⟨d, hd10⟩
      dsimp only at hpc
      clear HST hd' hQ' HS
      have S1 : Sl (wr.alloc (.cells #[.int .u32 10] 39)) (wr.alloc (.cells #[.int .u32 10] 39)).heap.size (some ⟨wr.heap.size, 0, none⟩) 1 [10] := (Sl.one_new wr 10 (by decide)).more (by simp)
      have S0 := hC.nx (al1 wr (.cells #[.int .u32 10] 39))
      have j := i.below (al1 wr (.cells #[.int .u32 10] 39))
      go_wp2_with fail
      refine (HDV.out _ _ _ S0 S1).mono ?_
      rintro e w4 ⟨A4, c4, B4, d4, rfl, S4, S5, hb⟩
      have hms : rdVal w4 (.slice A4 (Kn.dig Q).length c4) < rdVal wr (.slice C (Kn.dig N).length c) := by rw [rdVal_dig S4, rdVal_dig hC]; exact hQN
      have HMS := Lib.hid hms
      replace i := j.below hb
      clear hb hms j S0 S1 hC
      go_wp2_with fail
      refine (rword_any B4 d4 (Kn.dig d) 0 d w4 _ S5 (by omega) (by decide) HDF).mono ?_
      rintro e w5 ⟨rfl, rfl⟩
      go_wp2_with fail
      go_roundw
      case rel => exact ⟨Q, A4, c4, UInt8.ofNat (48 + d) :: ss, rfl, by rw [UInt8.ofNat_add]; exact congrArg _ (str_app [UInt8.ofNat 48 + UInt8.ofNat d] ss), S4, hQL, hsn, HSN, i⟩
      case measure => exact HMS.out

set_option maxRecDepth 100000 in
set_option maxHeartbeats 4000000 in
theorem rtext_zero (nx : Bool) (A : Option Addr) (ca : Nat) (xs : List Nat) (w : World) (h : Sl w w.heap.size A ca xs) (hl : xs.length ≤ 99999) (h0 : Kn.val xs = 0) :
    Calls Tryd.prog 23 #[intV nx A xs.length ca] w fun e w' => e = .returned (.string ⟨(Lib.itoa (Kn.iv nx xs)).toArray⟩) ∧ Below w.heap.size w w' := by
  have HTX := Lib.hid (fun (W : World) (h : Sl W W.heap.size A ca xs) => (by have := rtrim_any A ca xs W h (by omega); rwa [h0] at this : Calls Tryd.prog 30 #[.slice A xs.length ca] W (MagRes 0 W)))
  have e0 : Lib.itoa (Kn.iv nx xs) = [48] := by
    have : Kn.iv nx xs = 0 := by unfold Kn.iv; rw [h0]; cases nx <;> rfl
    rw [this]; exact itoa0
  rw [e0]
  unfold intV
  go_enter Tryd.func23, Tryd.ntmps23
  go_wp2_with fail
  have i : Ti w (w.alloc (.cells #[.bool nx, .slice A xs.length ca] 24)) nx A xs.length ca := ⟨Two.new_ w (.bool nx) (.slice A xs.length ca) 24, al1 w _⟩
  have hX := (h.alloc (Nat.le_refl _) (.cells #[.bool nx, .slice A xs.length ca] 24)).more (B' := (w.alloc (.cells #[.bool nx, .slice A xs.length ca] 24)).heap.size) (by simp)
  revert i hX
  generalize w.alloc (.cells #[.bool nx, .slice A xs.length ca] 24) = w1
  intro i hX
  refine (HTX.out w1 hX).mono ?_
  rintro e w2 ⟨C, c, rfl, hC, hb⟩
  have bel := (i.below hb).bel
  rw [Kn.dig_zero]
  clear e0
  go_wp2_with fail
  go_ret
  exact ⟨rfl, bel⟩
theorem rtext_any (nx : Bool) (A : Option Addr) (ca : Nat) (xs : List Nat) (w : World) (h : Sl w w.heap.size A ca xs) (hl : xs.length ≤ 99999) (hd : (Lib.decDigits (Kn.val xs)).length ≤ 1000000) :
    Calls Tryd.prog 23 #[intV nx A xs.length ca] w fun e w' => e = .returned (.string ⟨(Lib.itoa (Kn.iv nx xs)).toArray⟩) ∧ Below w.heap.size w w' := by
  rcases Nat.eq_zero_or_pos (Kn.val xs) with h0 | h0
  · exact rtext_zero nx A ca xs w h hl h0
  · exact rtext_pos nx A ca xs w h hl h0 hd
end Go.Proofs.YtmhfdmidaheoeaaDoor
