/- My texts, packed: Tr, Ru, Rv, Rw, Wg, Rx, Ry, Rh. -/
import Derived.Test.YtkpomjdablopaaaGreatDoorZ8
import Derived.Test.YtkpomjdablopaaaGreatDoorZ6
import Derived.Test.YtkpomjdablopaaaGreatDoorZ5
import Derived.Test.YtkpomjdablopaaaGreatDoorZ11
import Derived.Test.YtkpomjdablopaaaGreatDoorZ12
import Derived.IntWalk
import Derived.Deep.AppendLies
import Derived.Test.YtkpomjdablopaaaGreatDoorZ2
import Derived.Test.YtkpomjdablopaaaGreatDoorZ3
import Derived.Test.YtkpomjdablopaaaGreatDoorZ7
/- Walks: the reference's Text. -/
namespace Go.Proofs.YtkpomjdablopaaaGreatDoor
open Go.RowKit
set_option linter.unusedVariables false

theorem dig_piece : ∀ n : Fin 10, (⟨#[48, 49, 50, 51, 52, 53, 54, 55, 56, 57]⟩ : ByteArray).extract n.1 (n.1 + 1) = ⟨#[UInt8.ofNat (48 + n.1)]⟩ := by decide
/-- the digits of a number, none for zero -/
def dS (n : Nat) : List UInt8 := if n = 0 then [] else Lib.decDigits n
theorem dS_pos {n : Nat} (h : 0 < n) : dS n = Lib.decDigits n := if_neg (by omega)
theorem dS_zero : dS 0 = [] := rfl
theorem dS_step {n : Nat} (h : 0 < n) : dS n = dS (n / 10) ++ [UInt8.ofNat (48 + n % 10)] := by
  rw [dS_pos h]
  by_cases hn : n < 10
  · rw [Kt.dec_small hn, show n / 10 = 0 by omega, dS_zero, show n % 10 = n by omega]; rfl
  · rw [Kt.dec_big hn, dS_pos (by omega)]
theorem dig_ten : Kn.dig 10 = [10] := by
  rw [Kn.dig_pos (by decide), show 10 / 4294967296 = 0 by decide, Kn.dig_zero]
theorem dig_first {d : Nat} (h : d < 10) : d = (Kn.dig d).getD 0 0 := by
  by_cases h0 : d = 0
  · subst h0; rw [Kn.dig_zero]; rfl
  · rw [Kn.dig_pos h0]
    show d = d % 4294967296
    omega
theorem str_app (a b : List UInt8) : ((⟨a.toArray⟩ : ByteArray) ++ ⟨b.toArray⟩) = ⟨(a ++ b).toArray⟩ := ByteArray.ext (by rw [ByteArray.data_append]; simp)
/-- the world of the reference's Text -/
structure Ti (w wr : World) (nx : Bool) (A : Option Addr) (n ca : Nat) : Prop where
  t : Two wr w.heap.size (.bool nx) (.slice A n ca)
  bel : Below w.heap.size w wr
theorem Ti.below {w wr wx : World} {nx : Bool} {A : Option Addr} {n ca : Nat} (h : Ti w wr nx A n ca) (hb : Below wr.heap.size wr wx) : Ti w wx nx A n ca := ⟨h.t.below hb h.t.lt, h.bel.trans (hb.mono h.bel.size)⟩

set_option maxRecDepth 100000 in
set_option maxHeartbeats 4000000 in
theorem rtext_pos (nx : Bool) (A : Option Addr) (ca : Nat) (xs : List Nat) (w : World) (h : Sl w w.heap.size A ca xs) (hl : xs.length ≤ 99999) (h0 : 0 < Kn.val xs) (hd : (Lib.decDigits (Kn.val xs)).length ≤ 1000000) :
    Calls Tryz.prog 30 #[intV nx A xs.length ca] w fun e w' => e = .returned (.string ⟨(Lib.itoa (Kn.iv nx xs)).toArray⟩) ∧ Below w.heap.size w w' := by
  obtain ⟨T, hT⟩ : ∃ T : Nat, Hid (T = Kn.val xs) := ⟨_, Lib.hid rfl⟩
  have HTX := Lib.hid (fun (W : World) (h : Sl W W.heap.size A ca xs) => (by have := rtrim_any A ca xs W h (by omega); rwa [← hT.out] at this : Calls Tryz.prog 66 #[.slice A xs.length ca] W (MagRes T W)))
  have hTL : (Kn.dig T).length ≤ 99999 := by rw [hT.out]; exact Nat.le_trans (Kn.dig_len_val h.wd) hl
  rw [← hT.out] at h0 hd
  have hFin : Hid ((if nx then [45] else []) ++ Lib.decDigits T = Lib.itoa (Kn.iv nx xs)) := Lib.hid (by
    cases nx
    · have e : Kn.iv false xs = (T : Int) := by unfold Kn.iv; rw [hT.out]; simp
      rw [e, Lib.itoa_nonneg]; rfl
    · have e : Kn.iv true xs = -(T : Int) := by unfold Kn.iv; rw [hT.out]; simp
      rw [e, Lib.itoa_neg T h0]; rfl)
  obtain ⟨Z, hZ⟩ : ∃ Z : List UInt8, Hid (Z = Lib.itoa (Kn.iv nx xs)) := ⟨_, Lib.hid rfl⟩
  rw [← hZ.out] at hFin ⊢
  obtain ⟨D, hD⟩ : ∃ D : List UInt8, Hid (D = Lib.decDigits T) := ⟨_, Lib.hid rfl⟩
  rw [← hD.out] at hFin hd
  have hD0 : Hid (dS T ++ [] = D) := Lib.hid (by rw [List.append_nil, dS_pos h0, hD.out])
  have hdp := Kn.dig_len_pos.2 h0
  have gz : (((Kn.dig T).length : Int) == 0) = false := by rw [beq_eq_false_iff_ne]; omega
  clear hT hZ hD
  unfold intV
  go_enter Tryz.func30, Tryz.ntmps30
  go_wp2_with fail
  have i : Ti w (w.alloc (.cells #[.bool nx, .slice A xs.length ca] 24)) nx A xs.length ca := ⟨Two.new_ w (.bool nx) (.slice A xs.length ca) 24, al1 w _⟩
  have hX := (h.alloc (Nat.le_refl _) (.cells #[.bool nx, .slice A xs.length ca] 24)).more (B' := (w.alloc (.cells #[.bool nx, .slice A xs.length ca] 24)).heap.size) (by simp)
  revert i hX
  generalize w.alloc (.cells #[.bool nx, .slice A xs.length ca] 24) = w1
  intro i hX
  refine (HTX.out w1 hX).mono ?_
  rintro e w2 ⟨C, c, rfl, hC, hb⟩
  replace i := i.below hb
  clear hX hb
  go_wp2_with fail
  go_loopw [3, 4] (fun wv sv wr => ∃ N C c ss, wv = .slice C (Kn.dig N).length c ∧ sv = .string ⟨(ss : List UInt8).toArray⟩ ∧ Sl wr wr.heap.size C c (Kn.dig N) ∧ (Kn.dig N).length ≤ 99999 ∧ ss.length ≤ 1000000 ∧ Hid (dS N ++ ss = D) ∧ Ti w wr nx A xs.length ca) (fun wv _ wr => rdVal wr wv)
  case atStart => exact ⟨T, C, c, [], rfl, rfl, hC, hTL, by simp, hD0, i⟩
  case round =>
    clear i hC hTL hD0 hdp gz
    obtain ⟨N, C, c, ss, rfl, rfl, hC, hNL, hss, HS, i⟩ := hrel
    rcases Nat.eq_zero_or_pos N with hN | hN
    · subst hN
      have hfin : Hid ((if nx then [45] else []) ++ ss = Z) := Lib.hid (by rw [← hFin.out, ← HS.out, dS_zero]; rfl)
      clear hFin HS
      have c0 := i.t.c0
      have bel := i.bel
      rw [Kn.dig_zero]
      cases nx
      · go_wp2_with fail
        go_ret
        exact ⟨by rw [← hfin.out]; rfl, bel⟩
      · go_wp2_with fail
        go_ret
        refine ⟨?_, bel⟩
        rw [← hfin.out]
        have e := str_app [45] ss
        first | rw [e]; rfl | (exact congrArg _ e)
    · have hp := Kn.dig_len_pos.2 hN
      have g1 : decide ((0 : Int) < ((Kn.dig N).length : Int)) = true := by simp; omega
      have HST := Lib.hid (dS_step hN)
      obtain ⟨d, hd'⟩ : ∃ d, Hid (d = N % 10) := ⟨_, Lib.hid rfl⟩
      obtain ⟨Q, hQ'⟩ : ∃ Q, Hid (Q = N / 10) := ⟨_, Lib.hid rfl⟩
      have hd10 : d < 10 := by rw [hd'.out]; omega
      have hQN : Q < N := by rw [hQ'.out]; omega
      have hQL : (Kn.dig Q).length ≤ 99999 := Nat.le_trans (Kn.dig_len_le (Nat.lt_trans hQN Kn.dig_lt)) hNL
      have hdL : (Kn.dig d).length ≤ 1000 := Kn.dig_len_le (Nat.lt_of_lt_of_le hd10 (by rw [show (1000 : Nat) = 1 + 999 from rfl, Kn.pw_add]; exact Nat.le_trans (show 10 ≤ Kn.pw 1 by decide) (Nat.le_mul_of_pos_right _ (Kn.pw_pos _))))
      have HDV := Lib.hid (fun (W : World) (B1 : Option Addr) (d1 : Nat) (h1 : Sl W W.heap.size C c (Kn.dig N)) (h2 : Sl W W.heap.size B1 d1 [10]) => (by have := rdivWords_any N 10 C c B1 d1 W h1 (by rw [dig_ten]; exact h2) (by decide) (by omega) (by rw [dig_ten]; decide); rw [dig_ten] at this; rwa [← hQ'.out, ← hd'.out] at this : Calls Tryz.prog 67 #[.slice C (Kn.dig N).length c, .slice B1 1 d1] W (DivRes Q d W)))
      have HSN : Hid (dS Q ++ ([UInt8.ofNat (48 + d)] ++ ss) = D) := Lib.hid (by rw [← HS.out, HST.out, ← hd'.out, ← hQ'.out]; simp)
      have hsn : (UInt8.ofNat (48 + d) :: ss).length ≤ 1000000 := by
        have e := congrArg List.length HSN.out
        simp only [List.length_append, List.length_cons, List.length_nil] at e ⊢
        omega
      have HDF := Lib.hid (dig_first hd10)
      have hpc := dig_piece ⟨d, hd10⟩
      dsimp only at hpc
      clear HST hd' hQ' HS
      have S1 : Sl (wr.alloc (.cells #[.int .u32 10] 88)) (wr.alloc (.cells #[.int .u32 10] 88)).heap.size (some ⟨wr.heap.size, 0, none⟩) 1 [10] := (Sl.one_new wr 10 (by decide)).more (by simp)
      have S0 := hC.nx (al1 wr (.cells #[.int .u32 10] 88))
      have j := i.below (al1 wr (.cells #[.int .u32 10] 88))
      go_wp2_with fail
      refine (HDV.out _ _ _ S0 S1).mono ?_
      rintro e w4 ⟨A4, c4, B4, d4, rfl, S4, S5, hb⟩
      have hms : rdVal w4 (.slice A4 (Kn.dig Q).length c4) < rdVal wr (.slice C (Kn.dig N).length c) := by rw [rdVal_dig S4, rdVal_dig hC]; exact hQN
      have HMS := Lib.hid hms
      replace i := j.below hb
      clear hb hms j S0 S1 hC
      go_wp2_with fail
      refine (rword_any B4 d4 (Kn.dig d) 0 d w4 _ S5 (by omega) (by decide) HDF).mono ?_
      rintro e w5 ⟨rfl, rfl⟩
      go_wp2_with fail
      go_roundw
      case rel => exact ⟨Q, A4, c4, UInt8.ofNat (48 + d) :: ss, rfl, by rw [UInt8.ofNat_add]; exact congrArg _ (str_app [UInt8.ofNat 48 + UInt8.ofNat d] ss), S4, hQL, hsn, HSN, i⟩
      case measure => exact HMS.out

set_option maxRecDepth 100000 in
set_option maxHeartbeats 4000000 in
theorem rtext_zero (nx : Bool) (A : Option Addr) (ca : Nat) (xs : List Nat) (w : World) (h : Sl w w.heap.size A ca xs) (hl : xs.length ≤ 99999) (h0 : Kn.val xs = 0) :
    Calls Tryz.prog 30 #[intV nx A xs.length ca] w fun e w' => e = .returned (.string ⟨(Lib.itoa (Kn.iv nx xs)).toArray⟩) ∧ Below w.heap.size w w' := by
  have HTX := Lib.hid (fun (W : World) (h : Sl W W.heap.size A ca xs) => (by have := rtrim_any A ca xs W h (by omega); rwa [h0] at this : Calls Tryz.prog 66 #[.slice A xs.length ca] W (MagRes 0 W)))
  have e0 : Lib.itoa (Kn.iv nx xs) = [48] := by
    have : Kn.iv nx xs = 0 := by unfold Kn.iv; rw [h0]; cases nx <;> rfl
    rw [this]; exact itoa0
  rw [e0]
  unfold intV
  go_enter Tryz.func30, Tryz.ntmps30
  go_wp2_with fail
  have i : Ti w (w.alloc (.cells #[.bool nx, .slice A xs.length ca] 24)) nx A xs.length ca := ⟨Two.new_ w (.bool nx) (.slice A xs.length ca) 24, al1 w _⟩
  have hX := (h.alloc (Nat.le_refl _) (.cells #[.bool nx, .slice A xs.length ca] 24)).more (B' := (w.alloc (.cells #[.bool nx, .slice A xs.length ca] 24)).heap.size) (by simp)
  revert i hX
  generalize w.alloc (.cells #[.bool nx, .slice A xs.length ca] 24) = w1
  intro i hX
  refine (HTX.out w1 hX).mono ?_
  rintro e w2 ⟨C, c, rfl, hC, hb⟩
  have bel := (i.below hb).bel
  rw [Kn.dig_zero]
  clear e0
  go_wp2_with fail
  go_ret
  exact ⟨rfl, bel⟩
theorem rtext_any (nx : Bool) (A : Option Addr) (ca : Nat) (xs : List Nat) (w : World) (h : Sl w w.heap.size A ca xs) (hl : xs.length ≤ 99999) (hd : (Lib.decDigits (Kn.val xs)).length ≤ 1000000) :
    Calls Tryz.prog 30 #[intV nx A xs.length ca] w fun e w' => e = .returned (.string ⟨(Lib.itoa (Kn.iv nx xs)).toArray⟩) ∧ Below w.heap.size w w' := by
  rcases Nat.eq_zero_or_pos (Kn.val xs) with h0 | h0
  · exact rtext_zero nx A ca xs w h hl h0
  · exact rtext_pos nx A ca xs w h hl h0 hd
end Go.Proofs.YtkpomjdablopaaaGreatDoor
/- Walks of package rational: Text. -/
namespace Go.Proofs.YtkpomjdablopaaaGreatDoor
open Go.RowKit
set_option linter.unusedVariables false

/-- the text of a fraction -/
def rtxt (z : Rat) : List UInt8 := if z.den = 1 then Lib.itoa z.num else Lib.itoa z.num ++ [47] ++ Lib.itoa (z.den : Int)
theorem dec10 {n : Nat} (h : n < Kn.pw 10) : (Lib.decDigits n).length ≤ 100 :=
  Kn.dec_len (k := 99) (Nat.lt_of_lt_of_le h (by decide +kernel))
theorem itoa_len {z : Int} (h : z.natAbs < Kn.pw 10) : (⟨(Lib.itoa z).toArray⟩ : ByteArray).size ≤ 101 := by
  show (Lib.itoa z).toArray.size ≤ 101
  rw [List.size_toArray]
  have h2 := dec10 h
  rcases Int.lt_or_le z 0 with hz | hz
  · obtain ⟨n, rfl⟩ : ∃ n : Nat, z = -(n : Int) := ⟨z.natAbs, by omega⟩
    rw [Int.natAbs_neg, Int.natAbs_natCast] at h2
    rw [Lib.itoa_neg n (by omega), List.length_cons]; omega
  · obtain ⟨n, rfl⟩ : ∃ n : Nat, z = (n : Int) := ⟨z.natAbs, by omega⟩
    rw [Int.natAbs_natCast] at h2
    rw [Lib.itoa_nonneg]; omega
theorem Tabs.drew {W : World} (h : Tabs W) : Tabs W.drew := h.below (bDrew1 (Below.refl _ _))

set_option maxRecDepth 100000 in
set_option maxHeartbeats 3000000 in
theorem text_one {x y : Int} {n : Nat} {p : Bool} {A : Option Addr} {c : Nat} {l : List Nat} {q : Bool} {B : Option Addr} {d : Nat} {m : List Nat} {w : World} (h1 : Iv w p A c l x n) (h2 : Iv w q B d m y n) {z : Rat} (hz : z = Rat.divInt x y) (hn : n ≤ 10) (hn1 : 1 ≤ n) (ht : Tabs w) (hb1 : z.num.natAbs < Kn.pw 10) (hb2 : ((z.den : Int)).natAbs < Kn.pw 10) (h1d : z.den = 1) :
    Calls Tryz.prog 8 #[ratV p A l.length c q B m.length d] w fun e w' => e = .returned (.string ⟨(rtxt z).toArray⟩) ∧ Below w.heap.size w w' := by
  have HC := Lib.hid (fun (W : World) (h1 : Iv W p A c l x n) (h2 : Iv W q B d m y n) => (by have h := grcl h1 h2 (by omega) hn1; rw [← hz] at h; exact h : Calls Tryz.prog 21 #[.agg #[.bool p, .slice A l.length c, .bool q, .slice B m.length d]] W (GR z n W)))
  have HO := Lib.hid (fun (W : World) (p4 : Bool) (A4 : Option Addr) (c4 : Nat) (l4 : List Nat) (h : Cn W p4 A4 c4 l4 (z.den : Int) n) => (gone h.iv (by omega) true (Lib.hid (decide_eq_true (by omega))) : Calls Tryz.prog 22 #[.agg #[.bool p4, .slice A4 l4.length c4]] W fun e w' => e = .returned (.bool true) ∧ Below W.heap.size W w'))
  obtain ⟨s1, hs1⟩ : ∃ s : ByteArray, s = ⟨(Lib.itoa z.num).toArray⟩ := ⟨_, rfl⟩
  have HT1 := Lib.hid (fun (W : World) (p4 : Bool) (A4 : Option Addr) (c4 : Nat) (l4 : List Nat) (ht : Tabs W) (h : Cn W p4 A4 c4 l4 z.num n) => (by have e := h.iv.val; have h := text_any p4 A4 c4 l4 W h.iv.sl (by have := h.iv.len; omega) ht; rw [e, ← hs1] at h; exact h : Calls Tryz.prog 23 #[.agg #[.bool p4, .slice A4 l4.length c4]] W fun e w' => e = .returned (.string s1) ∧ Below W.heap.size W w'))
  have HS : Hid ((⟨(rtxt z).toArray⟩ : ByteArray) = s1) := Lib.hid (by rw [hs1]; unfold rtxt; rw [if_pos h1d])
  rw [HS.out]
  clear hz hn hn1 h1d hs1 hb1 hb2
  unfold ratV
  go_enter Tryz.func8, Tryz.ntmps8
  go_wp2_with fail
  have t1 : Four (w.alloc (.cells #[.bool p, .slice A l.length c, .bool q, .slice B m.length d] 26)) w.heap.size (.bool p) (.slice A l.length c) (.bool q) (.slice B m.length d) := Four.new_ w (.bool p) (.slice A l.length c) (.bool q) (.slice B m.length d) 26
  have bel : Below w.heap.size w (w.alloc (.cells #[.bool p, .slice A l.length c, .bool q, .slice B m.length d] 26)) := (Below.refl _ _).alloc (Nat.le_refl _) _
  generalize (w.alloc (.cells #[.bool p, .slice A l.length c, .bool q, .slice B m.length d] 26)) = wx at t1 bel ⊢
  have X := h1.below bel
  have Y := h2.below bel
  have t1_0 := t1.c0
  have t1_1 := t1.c1
  have t1_2 := t1.c2
  have t1_3 := t1.c3
  go_wp2_with fail
  refine (HC.out _ X Y).mono ?_
  rintro e w2 ⟨A5, c5, l5, A6, c6, l6, rfl, CC, hb⟩
  clear t1_0 t1_1 t1_2 t1_3
  replace t1 := t1.below hb t1.lt
  replace bel := bel.trans (hb.mono bel.size)
  clear hb
  clear X Y
  have t1_0 := t1.c0
  have t1_1 := t1.c1
  have t1_2 := t1.c2
  have t1_3 := t1.c3
  have f0 := t1.fr 0
  have f1 := t1.fr 1
  have f2 := t1.fr 2
  have f3 := t1.fr 3
  go_upto_region 2 with (fail)
  clear f0 f1 f2 f3
  clear t1_0 t1_1 t1_2 t1_3
  replace bel := below_set4 bel (b := w.heap.size) (by omega) (.bool (decide (z.num < 0))) (.slice A5 l5.length c5) (.bool false) (.slice A6 l6.length c6)
  replace CC := CC.put4 t1 (.bool (decide (z.num < 0))) (.slice A5 l5.length c5) (.bool false) (.slice A6 l6.length c6)
  replace t1 := t1.put (.bool (decide (z.num < 0))) (.slice A5 l5.length c5) (.bool false) (.slice A6 l6.length c6)
  dsimp only [set4] at t1 bel CC
  generalize ((((w2.setCell ⟨w.heap.size, 0, none⟩ (.bool (decide (z.num < 0)))).setCell ⟨w.heap.size, 1, none⟩ (.slice A5 l5.length c5)).setCell ⟨w.heap.size, 2, none⟩ (.bool false)).setCell ⟨w.heap.size, 3, none⟩ (.slice A6 l6.length c6)) = v1 at t1 bel CC ⊢
  have t1_0 := t1.c0
  have t1_1 := t1.c1
  have t1_2 := t1.c2
  have t1_3 := t1.c3
  go_wp2_with fail
  refine (HO.out _ _ _ _ _ CC.b).mono ?_
  rintro e w3 ⟨rfl, hb⟩
  clear t1_0 t1_1 t1_2 t1_3
  replace t1 := t1.below hb t1.lt
  replace bel := bel.trans (hb.mono bel.size)
  replace CC := CC.below hb
  clear hb
  have T := ht.below bel
  have t1_0 := t1.c0
  have t1_1 := t1.c1
  have t1_2 := t1.c2
  have t1_3 := t1.c3
  go_wp2_with fail
  refine (HT1.out _ _ _ _ _ T CC.a).mono ?_
  rintro e w4 ⟨rfl, hb⟩
  clear t1_0 t1_1 t1_2 t1_3
  replace t1 := t1.below hb t1.lt
  replace bel := bel.trans (hb.mono bel.size)
  replace CC := CC.below hb
  clear hb
  go_wp2_with fail
  go_ret
  exact ⟨rfl, bel⟩

set_option maxRecDepth 100000 in
set_option maxHeartbeats 3000000 in
theorem text_two {x y : Int} {n : Nat} {p : Bool} {A : Option Addr} {c : Nat} {l : List Nat} {q : Bool} {B : Option Addr} {d : Nat} {m : List Nat} {w : World} (h1 : Iv w p A c l x n) (h2 : Iv w q B d m y n) {z : Rat} (hz : z = Rat.divInt x y) (hn : n ≤ 10) (hn1 : 1 ≤ n) (ht : Tabs w) (hb1 : z.num.natAbs < Kn.pw 10) (hb2 : ((z.den : Int)).natAbs < Kn.pw 10) (h1d : ¬ z.den = 1) :
    Calls Tryz.prog 8 #[ratV p A l.length c q B m.length d] w fun e w' => e = .returned (.string ⟨(rtxt z).toArray⟩) ∧ Below w.heap.size w w' := by
  have HC := Lib.hid (fun (W : World) (h1 : Iv W p A c l x n) (h2 : Iv W q B d m y n) => (by have h := grcl h1 h2 (by omega) hn1; rw [← hz] at h; exact h : Calls Tryz.prog 21 #[.agg #[.bool p, .slice A l.length c, .bool q, .slice B m.length d]] W (GR z n W)))
  have HO := Lib.hid (fun (W : World) (p4 : Bool) (A4 : Option Addr) (c4 : Nat) (l4 : List Nat) (h : Cn W p4 A4 c4 l4 (z.den : Int) n) => (gone h.iv (by omega) false (Lib.hid (decide_eq_false (by omega))) : Calls Tryz.prog 22 #[.agg #[.bool p4, .slice A4 l4.length c4]] W fun e w' => e = .returned (.bool false) ∧ Below W.heap.size W w'))
  obtain ⟨s1, hs1⟩ : ∃ s : ByteArray, s = ⟨(Lib.itoa z.num).toArray⟩ := ⟨_, rfl⟩
  have HT1 := Lib.hid (fun (W : World) (p4 : Bool) (A4 : Option Addr) (c4 : Nat) (l4 : List Nat) (ht : Tabs W) (h : Cn W p4 A4 c4 l4 z.num n) => (by have e := h.iv.val; have h := text_any p4 A4 c4 l4 W h.iv.sl (by have := h.iv.len; omega) ht; rw [e, ← hs1] at h; exact h : Calls Tryz.prog 23 #[.agg #[.bool p4, .slice A4 l4.length c4]] W fun e w' => e = .returned (.string s1) ∧ Below W.heap.size W w'))
  obtain ⟨s2, hs2⟩ : ∃ s : ByteArray, s = ⟨(Lib.itoa (z.den : Int)).toArray⟩ := ⟨_, rfl⟩
  have HT2 := Lib.hid (fun (W : World) (p4 : Bool) (A4 : Option Addr) (c4 : Nat) (l4 : List Nat) (ht : Tabs W) (h : Cn W p4 A4 c4 l4 (z.den : Int) n) => (by have e := h.iv.val; have h := text_any p4 A4 c4 l4 W h.iv.sl (by have := h.iv.len; omega) ht; rw [e, ← hs2] at h; exact h : Calls Tryz.prog 23 #[.agg #[.bool p4, .slice A4 l4.length c4]] W fun e w' => e = .returned (.string s2) ∧ Below W.heap.size W w'))
  have HS : Hid ((⟨(rtxt z).toArray⟩ : ByteArray) = s1 ++ ⟨#[47]⟩ ++ s2) := Lib.hid (by rw [hs1, hs2]; unfold rtxt; rw [if_neg h1d]; exact (congrArg (· ++ _) (str_app _ [47])).symm ▸ (str_app _ _).symm)
  rw [HS.out]
  have z1 : s1.size ≤ 101 := by rw [hs1]; exact itoa_len hb1
  have z2 : s2.size ≤ 101 := by rw [hs2]; exact itoa_len hb2
  clear hs2
  clear hz hn hn1 h1d hs1 hb1 hb2
  unfold ratV
  go_enter Tryz.func8, Tryz.ntmps8
  go_wp2_with fail
  have t1 : Four (w.alloc (.cells #[.bool p, .slice A l.length c, .bool q, .slice B m.length d] 26)) w.heap.size (.bool p) (.slice A l.length c) (.bool q) (.slice B m.length d) := Four.new_ w (.bool p) (.slice A l.length c) (.bool q) (.slice B m.length d) 26
  have bel : Below w.heap.size w (w.alloc (.cells #[.bool p, .slice A l.length c, .bool q, .slice B m.length d] 26)) := (Below.refl _ _).alloc (Nat.le_refl _) _
  generalize (w.alloc (.cells #[.bool p, .slice A l.length c, .bool q, .slice B m.length d] 26)) = wx at t1 bel ⊢
  have X := h1.below bel
  have Y := h2.below bel
  have t1_0 := t1.c0
  have t1_1 := t1.c1
  have t1_2 := t1.c2
  have t1_3 := t1.c3
  go_wp2_with fail
  refine (HC.out _ X Y).mono ?_
  rintro e w2 ⟨A5, c5, l5, A6, c6, l6, rfl, CC, hb⟩
  clear t1_0 t1_1 t1_2 t1_3
  replace t1 := t1.below hb t1.lt
  replace bel := bel.trans (hb.mono bel.size)
  clear hb
  clear X Y
  have t1_0 := t1.c0
  have t1_1 := t1.c1
  have t1_2 := t1.c2
  have t1_3 := t1.c3
  have f0 := t1.fr 0
  have f1 := t1.fr 1
  have f2 := t1.fr 2
  have f3 := t1.fr 3
  go_upto_region 2 with (fail)
  clear f0 f1 f2 f3
  clear t1_0 t1_1 t1_2 t1_3
  replace bel := below_set4 bel (b := w.heap.size) (by omega) (.bool (decide (z.num < 0))) (.slice A5 l5.length c5) (.bool false) (.slice A6 l6.length c6)
  replace CC := CC.put4 t1 (.bool (decide (z.num < 0))) (.slice A5 l5.length c5) (.bool false) (.slice A6 l6.length c6)
  replace t1 := t1.put (.bool (decide (z.num < 0))) (.slice A5 l5.length c5) (.bool false) (.slice A6 l6.length c6)
  dsimp only [set4] at t1 bel CC
  generalize ((((w2.setCell ⟨w.heap.size, 0, none⟩ (.bool (decide (z.num < 0)))).setCell ⟨w.heap.size, 1, none⟩ (.slice A5 l5.length c5)).setCell ⟨w.heap.size, 2, none⟩ (.bool false)).setCell ⟨w.heap.size, 3, none⟩ (.slice A6 l6.length c6)) = v1 at t1 bel CC ⊢
  have t1_0 := t1.c0
  have t1_1 := t1.c1
  have t1_2 := t1.c2
  have t1_3 := t1.c3
  go_wp2_with fail
  refine (HO.out _ _ _ _ _ CC.b).mono ?_
  rintro e w3 ⟨rfl, hb⟩
  clear t1_0 t1_1 t1_2 t1_3
  replace t1 := t1.below hb t1.lt
  replace bel := bel.trans (hb.mono bel.size)
  replace CC := CC.below hb
  clear hb
  go_upto_region 4 with (fail)
  have T := ht.below bel
  replace t1 := t1.drew
  replace bel := bDrew1 bel
  replace CC := CC.drew
  replace T := T.drew
  have k1 : (9223372036854775807 < s1.size + 1) = False := eq_false (by omega)
  have k2 : (9223372036854775807 < s1.size + 1 + s2.size) = False := eq_false (by omega)
  clear z1 z2
  go_region_held3 (fun w' => w'.cell? ⟨w.heap.size, 0, none⟩ = some (.bool (decide (z.num < 0))) ∧ w'.cell? ⟨w.heap.size, 1, none⟩ = some (.slice A5 l5.length c5) ∧ w'.cell? ⟨w.heap.size, 2, none⟩ = some (.bool false) ∧ w'.cell? ⟨w.heap.size, 3, none⟩ = some (.slice A6 l6.length c6))
    (with_reducible exact ⟨t1.c0, t1.c1, t1.c2, t1.c3⟩)
    (first
      | (go_at_call 23; (with_reducible refine (HT1.out _ _ _ _ _ T CC.a).mono ?_); rintro e wa ⟨rfl, hb⟩; replace t1 := t1.below hb t1.lt; replace bel := bel.trans (hb.mono bel.size); replace CC := CC.below hb; replace T := T.below hb; clear hb)
      | (go_at_call 23; (with_reducible refine (HT2.out _ _ _ _ _ T CC.b).mono ?_); rintro e wa ⟨rfl, hb⟩; replace t1 := t1.below hb t1.lt; replace bel := bel.trans (hb.mono bel.size); replace CC := CC.below hb; replace T := T.below hb; clear hb))
  go_wp2_with fail
  go_ret
  exact ⟨rfl, bel⟩

theorem grtext {x y : Int} {n : Nat} {p : Bool} {A : Option Addr} {c : Nat} {l : List Nat} {q : Bool} {B : Option Addr} {d : Nat} {m : List Nat} {w : World} (h1 : Iv w p A c l x n) (h2 : Iv w q B d m y n) (hn : n ≤ 10) (hn1 : 1 ≤ n) (ht : Tabs w) :
    Calls Tryz.prog 8 #[ratV p A l.length c q B m.length d] w fun e w' => e = .returned (.string ⟨(rtxt (Rat.divInt x y)).toArray⟩) ∧ Below w.heap.size w w' := by
  have hb1 : (Rat.divInt x y).num.natAbs < Kn.pw 10 ∧ ((Rat.divInt x y).den : Int).natAbs < Kn.pw 10 := by
    have a1 := h1.abs
    have a2 := h2.abs
    have a3 := Kn.pw_mono hn
    rw [Int.natAbs_natCast]
    by_cases hy : y = 0
    · subst hy; rw [Rat.divInt_zero]; exact by decide +kernel
    · have := rq_num_le (n := x) hy
      exact ⟨by omega, by omega⟩
  by_cases h1d : (Rat.divInt x y).den = 1
  · exact text_one h1 h2 rfl hn hn1 ht hb1.1 hb1.2 h1d
  · exact text_two h1 h2 rfl hn hn1 ht hb1.1 hb1.2 h1d
end Go.Proofs.YtkpomjdablopaaaGreatDoor
/- Walks of package rational: isFrac, Reduce. -/
namespace Go.Proofs.YtkpomjdablopaaaGreatDoor
open Go.RowKit
set_option linter.unusedVariables false

set_option maxRecDepth 100000 in
theorem isfrac_any (a b : Int) (w : World) : Calls Tryz.prog 46 #[.agg #[.int .i64 a, .int .i64 b]] w fun e w' => e = .returned (.bool (decide (0 ≤ a ∧ 1 ≤ b))) ∧ Below w.heap.size w w' := by
  by_cases h1 : 0 ≤ a
  · have e1 : decide (0 ≤ a) = true := decide_eq_true h1
    by_cases h2 : 1 ≤ b
    · have e2 : decide (1 ≤ b) = true := decide_eq_true h2
      have HR : Hid (true = decide (0 ≤ a ∧ 1 ≤ b)) := Lib.hid (decide_eq_true ⟨h1, h2⟩).symm
      rw [← HR.out]
      go_enter Tryz.func46, Tryz.ntmps46
      go_wp2_with fail
      go_ret
      exact ⟨rfl, al1 _ _⟩
    · have e2 : decide (1 ≤ b) = false := decide_eq_false h2
      have HR : Hid (false = decide (0 ≤ a ∧ 1 ≤ b)) := Lib.hid (decide_eq_false (fun h => h2 h.2)).symm
      rw [← HR.out]
      go_enter Tryz.func46, Tryz.ntmps46
      go_wp2_with fail
      go_ret
      exact ⟨rfl, al1 _ _⟩
  · have e1 : decide (0 ≤ a) = false := decide_eq_false h1
    have HR : Hid (false = decide (0 ≤ a ∧ 1 ≤ b)) := Lib.hid (decide_eq_false (fun h => h1 h.1)).symm
    rw [← HR.out]
    go_enter Tryz.func46, Tryz.ntmps46
    go_wp2_with fail
    go_ret
    exact ⟨rfl, al1 _ _⟩
/-- what Reduce makes -/
def redV (a b : Int) : Value := .agg #[.int .i64 (a / (Nat.gcd b.natAbs a.natAbs : Int)), .int .i64 (b / (Nat.gcd b.natAbs a.natAbs : Int))]
def FrRes (u v k : Int) (w : World) (e : Ending) (w' : World) : Prop := e = .returned (.tuple #[.agg #[.int .i64 u, .int .i64 v], .int .i64 k]) ∧ Below w.heap.size w w'

set_option maxRecDepth 100000 in
set_option maxHeartbeats 2000000 in
theorem reduce_bad (a b : Int) (h : ¬ (0 ≤ a ∧ 1 ≤ b)) (w : World) : Calls Tryz.prog 19 #[.int .i64 a, .int .i64 b] w (FrRes 0 0 3 w) := by
  have HF := Lib.hid (fun W => (by have h1 := isfrac_any a b W; rwa [decide_eq_false h] at h1 : Calls Tryz.prog 46 #[.agg #[.int .i64 a, .int .i64 b]] W fun e w' => e = .returned (.bool false) ∧ Below W.heap.size W w'))
  clear h
  go_enter Tryz.func19, Tryz.ntmps19
  go_wp2_with fail
  have t3 : Two (w.alloc (.cells #[.int .i64 0, .int .i64 0] 40)) w.heap.size (.int .i64 0) (.int .i64 0) := Two.new_ _ _ _ _
  have bel := al1 w (.cells #[.int .i64 0, .int .i64 0] 40)
  generalize w.alloc (.cells #[.int .i64 0, .int .i64 0] 40) = wx at t3 bel ⊢
  refine (HF.out _).mono ?_
  rintro e w2 ⟨rfl, hb⟩
  replace t3 := t3.below hb t3.lt
  replace bel := bel.trans (hb.mono bel.size)
  have c0 := t3.c0
  have c1 := t3.c1
  have f0 := t3.fr 0
  have f1 := t3.fr 1
  have R := Lib.hid (t3.put2 (.int .i64 0) (.int .i64 0))
  have BL := Lib.hid (below_set2 bel (b := w.heap.size) (by omega) (.int .i64 0) (.int .i64 0))
  clear t3 bel hb
  go_wp2_with fail
  have r0 := R.out.c0
  have r1 := R.out.c1
  unfold set2 at r0 r1
  refine bodyPost_ret (v := .tuple #[.agg #[.int .i64 0, .int .i64 0], .int .i64 3]) (by simp [results, Tryz.results19, go_sem, r0, r1]) rfl ?_
  exact ⟨rfl, BL.out⟩

set_option maxRecDepth 100000 in
set_option maxHeartbeats 2000000 in
theorem reduce_ok (a b : Nat) (ha : a ≤ 9223372036854775807) (hb : b ≤ 9223372036854775807) (h1 : 1 ≤ b) (w : World) : Calls Tryz.prog 19 #[.int .i64 (a : Int), .int .i64 (b : Int)] w (FrRes ((a / Nat.gcd b a : Nat) : Int) ((b / Nat.gcd b a : Nat) : Int) 0 w) := by
  have HF := Lib.hid (fun W => (by have h1 := isfrac_any a b W; rwa [decide_eq_true ⟨by omega, by omega⟩] at h1 : Calls Tryz.prog 46 #[.agg #[.int .i64 (a : Int), .int .i64 (b : Int)]] W fun e w' => e = .returned (.bool true) ∧ Below W.heap.size W w'))
  obtain ⟨G, hG⟩ : ∃ G, Hid (Nat.gcd b a = G) := ⟨_, Lib.hid rfl⟩
  have hG0 : 0 < G := by rw [← hG.out]; exact Nat.gcd_pos_of_pos_left _ (by omega)
  rw [hG.out]
  have HA := Lib.hid ha
  have HB := Lib.hid hb
  have HG0 := Lib.hid hG0
  clear ha hb hG0
  go_enter Tryz.func19, Tryz.ntmps19
  go_wp2_with fail
  have t3 : Two (w.alloc (.cells #[.int .i64 0, .int .i64 0] 40)) w.heap.size (.int .i64 0) (.int .i64 0) := Two.new_ _ _ _ _
  have bel := al1 w (.cells #[.int .i64 0, .int .i64 0] 40)
  generalize w.alloc (.cells #[.int .i64 0, .int .i64 0] 40) = wx at t3 bel ⊢
  refine (HF.out _).mono ?_
  rintro e w2 ⟨rfl, hb⟩
  replace t3 := t3.below hb t3.lt
  replace bel := bel.trans (hb.mono bel.size)
  clear hb h1
  go_wp2_with fail
  go_loopw [6, 7] (fun x y wr => ∃ u v : Nat, x = .int .i64 (u : Int) ∧ y = .int .i64 (v : Int) ∧ Two wr w.heap.size (.int .i64 0) (.int .i64 0) ∧ Below w.heap.size w wr ∧ Hid (Nat.gcd u v = G)) (fun _ y _ => (intOf y).toNat)
  case atStart => exact ⟨b, a, rfl, rfl, t3, bel, hG⟩
  case round =>
    obtain ⟨u, v, rfl, rfl, t4, b4, HI⟩ := hrel
    by_cases hv : v = 0
    · subst hv
      have hu : u = G := by have := HI.out; rwa [Nat.gcd_zero_right] at this
      subst hu
      have g0 : (u : Int) ≠ 0 := by have := HG0.out; omega
      have g1 : ((u : Int) == 0) = false := beq_eq_false_iff_ne.2 g0
      obtain ⟨A1, hA1⟩ : ∃ n : Nat, Hid (n = a / u) := ⟨_, Lib.hid rfl⟩
      obtain ⟨B1, hB1⟩ : ∃ n : Nat, Hid (n = b / u) := ⟨_, Lib.hid rfl⟩
      have d1 : ((a : Int)).tdiv (u : Int) = (A1 : Int) := by rw [hA1.out]; exact (Int.ofNat_tdiv _ _).symm
      have d2 : ((b : Int)).tdiv (u : Int) = (B1 : Int) := by rw [hB1.out]; exact (Int.ofNat_tdiv _ _).symm
      have w1 : IntKind.i64.wrap (A1 : Int) = (A1 : Int) := IntWalk.i64_in _ (by have := HA.out; have := Nat.div_le_self a u; have := hA1.out; omega)
      have w2' : IntKind.i64.wrap (B1 : Int) = (B1 : Int) := IntWalk.i64_in _ (by have := HB.out; have := Nat.div_le_self b u; have := hB1.out; omega)
      clear HI t3 bel
      go_wp2_with fail
      generalize wr = wz at t4 b4 ⊢
      have t5 := t4.drew
      have b5 := bDrew1 b4
      have c0 := t4.c0
      have c1 := t4.c1
      have f0 := t4.fr 0
      have f1 := t4.fr 1
      have c2 := t5.c0
      have c3 := t5.c1
      have f2 := t5.fr 0
      have f3 := t5.fr 1
      have R := Lib.hid (World.cell?_setCell_same wz _ (.int .i64 (A1 : Int)) c0)
      have R2 := Lib.hid ((t4.put2 (.int .i64 (A1 : Int)) (.int .i64 (B1 : Int))).c1)
      have BL := Lib.hid (below_set2 b4 (b := w.heap.size) (by omega) (.int .i64 (A1 : Int)) (.int .i64 (B1 : Int)))
      clear t4 t5 b4 b5
      go_region
      go_wp2_with fail
      have r0 := R.out
      have r1 := R2.out
      unfold set2 at r1
      refine bodyPost_ret (v := .tuple #[.agg #[.int .i64 (A1 : Int), .int .i64 (B1 : Int)], .int .i64 0]) (by simp [results, Tryz.results19, go_sem, r0, r1]) rfl ?_
      exact ⟨by rw [hA1.out, hB1.out], by first | exact BL.out | exact bDrew1 BL.out⟩
    · have g0 : (v : Int) ≠ 0 := by omega
      have g1 : ((v : Int) == 0) = false := beq_eq_false_iff_ne.2 g0
      have g2 : ((v : Int) != 0) = true := by simp; exact hv
      obtain ⟨m, hm⟩ : ∃ n : Nat, Hid (n = u % v) := ⟨_, Lib.hid rfl⟩
      have d1 : ((u : Int)).tmod (v : Int) = (m : Int) := by rw [hm.out]; exact (Int.ofNat_tmod _ _).symm
      have hmv : m < v := by rw [hm.out]; exact Nat.mod_lt _ (by omega)
      have HI2 : Hid (Nat.gcd v m = G) := Lib.hid (by rw [hm.out, ← HI.out, Nat.gcd_comm u v, Nat.gcd_rec v u, Nat.gcd_comm])
      clear HI
      go_wp2_with fail
      go_quiet (fail)
      go_wp2_with fail
      go_roundw
      case rel => exact ⟨v, m, rfl, rfl, t4.drewN _, bDrew b4 _, HI2⟩
      case measure => simp [intOf]; omega
end Go.Proofs.YtkpomjdablopaaaGreatDoor
/- Walks of package rational: timesPower. -/
namespace Go.Proofs.YtkpomjdablopaaaGreatDoor
open Go.RowKit
set_option linter.unusedVariables false

theorem Kn.app_step {out l : List Nat} {q k s cr t x : Nat} (hl : out.length = q + k) (hk : k < l.length) (hI : Kn.val out + Kn.pw (q + k) * cr = Kn.pw q * (Kn.val (l.take k) * 2 ^ s)) (ht : t = cr + x * 2 ^ s) (hx : x = l.getD k 0) :
    Kn.val (out ++ [t % 4294967296]) + Kn.pw (q + k + 1) * (t / 4294967296) = Kn.pw q * (Kn.val (l.take (k + 1)) * 2 ^ s) := by
  rw [Kn.val_append, hl, Kn.val_one, Kn.val_take_succ _ hk, ← hx, Nat.add_mul, Nat.mul_add, ← hI, Nat.add_assoc (Kn.val out), Kn.pw_divmod, ht, Nat.mul_add, Kn.pw_add]
  simp only [Nat.mul_assoc, Nat.add_assoc]
theorem Kn.app_fin {out : List Nat} {q k s cr v : Nat} (hl : out.length = q + k) (hI : Kn.val out + Kn.pw (q + k) * cr = Kn.pw q * (v * 2 ^ s)) : Kn.val (out ++ [cr]) = v * 2 ^ (32 * q + s) := by
  rw [Kn.val_append, hl, Kn.val_one, hI, Nat.pow_add, Nat.pow_mul]
  show (2 ^ 32) ^ q * (v * 2 ^ s) = _
  rw [Nat.mul_left_comm]
theorem Kn.iv_scale (p : Bool) {l m : List Nat} {f : Nat} (h : Kn.val m = Kn.val l * f) : Kn.iv p m = Kn.iv p l * (f : Int) := by
  cases p
  · show (Kn.val m : Int) = (Kn.val l : Int) * f
    rw [h, Int.natCast_mul]
  · show -(Kn.val m : Int) = -(Kn.val l : Int) * f
    rw [h, Int.natCast_mul, Int.neg_mul]
/-- an integer in new memory, in whatever form -/
def GV (z : Int) (n : Nat) (W : World) (e : Ending) (W' : World) : Prop := ∃ p A c l, e = .returned (.agg #[.bool p, .slice A l.length c]) ∧ Iv W' p A c l z n ∧ Below W.heap.size W W'
theorem makeU32c (q cp : Nat) (hn : cp ≤ 10000000000) (hq : q ≤ cp) (z : Int) (hz : z = (cp : Int)) (W : World) : (Instr.makeSlice 22 (.int .i64 (q : Int)) (.int .i64 z)).run Tryz.prog W = .ok (.slice (some ⟨W.heap.size, 0, none⟩) q cp) (W.alloc (.cells (ncells .u32 (List.replicate cp 0)) 88)) := by
  subst hz
  obtain ⟨i, hi, hzz⟩ := Option.map_eq_some_iff.1 infoU32
  simp only [Prod.mk.injEq] at hzz
  have h := run_make (P := Tryz.prog) W 22 88 i (.int .u32 0) Tryz.underlying22 hi hzz.1 .i64 .i64 q cp (by omega) (by omega) (by rw [hzz.2.2]; omega) (by omega)
  rw [hzz.2.1, show (Value.int .u32 0).cells = #[.int .u32 0] from rfl] at h
  rw [← ncells_made]
  simpa using h
theorem own_make (W : World) (base q cp : Nat) (hb : base ≤ W.heap.size) (hc : cp ≤ 10000000000) (hq : q ≤ cp) :
    (W.alloc (.cells (ncells .u32 (List.replicate cp 0)) 88)).ownsRow base 88 1 (.slice (some ⟨W.heap.size, 0, none⟩) q cp) q (u32s (List.replicate q 0)) := by
  refine ⟨by simp [u32s], .inr ⟨W.heap.size, cp, ncells .u32 (List.replicate cp 0), rfl, hb, heap_alloc_new W _, hq, by unfold maxLen; omega, by simp [ncells], ?_⟩⟩
  unfold ncells u32s
  rw [← List.map_take, List.take_replicate, Nat.mul_one, Nat.min_eq_left hq]

set_option maxRecDepth 100000 in
set_option maxHeartbeats 3000000 in
theorem timesPower_any {x : Int} {n : Nat} {p : Bool} {A : Option Addr} {c : Nat} {l : List Nat} (K : Nat) {w : World} (h : Iv w p A c l x n) (hn : n ≤ 1000) (hK : K ≤ 1000000) :
    Calls Tryz.prog 79 #[.agg #[.bool p, .slice A l.length c], .int .i64 (K : Int)] w (GV (x * ((2 ^ K : Nat) : Int)) (K / 32 + n + 1) w) := by
  obtain ⟨i0, hi, hz0, hz1, hz2⟩ := info_parts infoU32
  obtain ⟨q, hq⟩ : ∃ q, q = K / 32 := ⟨_, rfl⟩
  obtain ⟨s, hs⟩ : ∃ s, s = K % 32 := ⟨_, rfl⟩
  have hll : l.length ≤ 1000 := Nat.le_trans h.len hn
  have hql : q ≤ 100000 := by omega
  have hsl : s ≤ 31 := by omega
  have d1 : (K : Int) / 32 = (q : Int) := by omega
  have d2 : (K : Int) % 32 = (s : Int) := by omega
  have HKK : Hid (32 * q + s = K) := Lib.hid (by omega)
  have HQ := Lib.hid hq
  obtain ⟨cp, hcp⟩ : ∃ cp, cp = q + l.length + 1 := ⟨_, rfl⟩
  have hmk := makeU32c q cp (by omega) (by omega) ((q : Int) + (l.length : Int) + 1) (by omega)
  have hown : Hid (∀ W : World, (W.alloc (.cells (ncells .u32 (List.replicate cp 0)) 88)).ownsRow W.heap.size 88 1 (.slice (some ⟨W.heap.size, 0, none⟩) q cp) q (u32s (List.replicate q 0))) := Lib.hid (fun W => own_make W _ q cp (Nat.le_refl _) (by omega) (by omega))
  have k0 : (0 : Int) ≤ (K : Int) := by omega
  clear hq hs hcp hK
  go_enter Tryz.func79, Tryz.ntmps79
  go_upto_region 1 with (fail)
  have t2 : Two ((w.alloc (.cells #[.bool p, .slice A l.length c] 24)).alloc (.cells #[.bool false, .slice none 0 0] 24)) w.heap.size (.bool p) (.slice A l.length c) := (Two.new_ _ _ _ _).alloc _
  have t4 : Two ((w.alloc (.cells #[.bool p, .slice A l.length c] 24)).alloc (.cells #[.bool false, .slice none 0 0] 24)) (w.heap.size + 1) (.bool false) (.slice none 0 0) := by
    simpa only [World.size_alloc] using Two.new_ (w.alloc (.cells #[.bool p, .slice A l.length c] 24)) (.bool false) (.slice none 0 0) 24
  have bel : Below w.heap.size w ((w.alloc (.cells #[.bool p, .slice A l.length c] 24)).alloc (.cells #[.bool false, .slice none 0 0] 24)) := (al1 _ _).alloc (by simp only [World.size_alloc]; omega) _
  generalize (w.alloc (.cells #[.bool p, .slice A l.length c] 24)).alloc (.cells #[.bool false, .slice none 0 0] 24) = wb at t2 t4 bel ⊢
  have X := h.below bel
  have c0 := t2.c0
  have c1 := t2.c1
  have k1 : ∀ o, (wb.alloc o).cell? ⟨w.heap.size, 1, none⟩ = some (.slice A l.length c) := fun o => (t2.alloc o).c1
  go_wp2_with fail
  have I0 : Ad wb.heap.size wb (wb.alloc (.cells (ncells .u32 (List.replicate cp 0)) 88)) (.slice (some ⟨wb.heap.size, 0, none⟩) q cp) q (List.replicate q 0) :=
    ⟨hown.out wb, by simp, Kn.Wd.zeros q, by simp, al1 _ _⟩
  generalize wb.alloc (.cells (ncells .u32 (List.replicate cp 0)) 88) = w1 at I0 ⊢
  clear hmk hown c0 c1 k1
  go_loopw [5, 6, 22] (fun v cv iv wr => ∃ k cr out, k ≤ l.length ∧ iv = .int .i64 (k : Nat) ∧ cv = .int .u64 (cr : Nat) ∧ Hid (cr < 2 ^ s) ∧ Ad wb.heap.size wb wr v (q + k) out ∧ Hid (Kn.val out + Kn.pw (q + k) * cr = Kn.pw q * (Kn.val (l.take k) * 2 ^ s))) (fun _ _ iv _ => l.length - (intOf iv).toNat)
  case atStart => exact ⟨0, 0, _, Nat.zero_le _, rfl, rfl, Lib.hid (Nat.pow_pos (by decide)), I0, Lib.hid (by rw [Kn.val_zeros]; simp [Kn.val])⟩
  case round =>
    clear I0
    obtain ⟨k, cr, out, hk, rfl, rfl, hcr, I, HI⟩ := hrel
    have hcrl : cr < 4294967296 := by have h1 := hcr.out; have h2 : 2 ^ s ≤ 2 ^ 31 := Nat.pow_le_pow_right (by decide) hsl; omega
    by_cases hlt : k < l.length
    · obtain ⟨b1, o1, y, rfl, hb1, hc1, hx, hxl⟩ := (X.sl.below I.bel).word hlt
      have U := Lib.hid (Kn.up_word hsl hcr.out hxl)
      obtain ⟨z, hz⟩ : ∃ z : Nat, Hid (z = y * 2 ^ s) := ⟨_, Lib.hid rfl⟩
      obtain ⟨t, ht⟩ : ∃ t : Nat, Hid (t = cr + z) := ⟨_, Lib.hid rfl⟩
      obtain ⟨m, hm⟩ : ∃ m : Nat, Hid (m = t % 4294967296) := ⟨_, Lib.hid rfl⟩
      obtain ⟨r, hr⟩ : ∃ r : Nat, Hid (r = t / 4294967296) := ⟨_, Lib.hid rfl⟩
      have hyl : t < 9223372036854775808 := by rw [ht.out, hz.out]; exact U.out.2.1
      have hm0 : m < 4294967296 := by rw [hm.out]; exact Nat.mod_lt _ (by decide)
      have hr0 : Hid (r < 2 ^ s) := Lib.hid (by rw [hr.out, ht.out, hz.out]; exact U.out.2.2)
      have e2 : IntKind.u64.wrap ((y : Int) * 2 ^ s) = (z : Int) := by rw [nat_pow_cast, ← Int.natCast_mul, ← hz.out]; exact wrap_nat (by have := ht.out; omega)
      have e3 : bits BinOp.or IntKind.u64 (cr : Int) (z : Int) = (t : Int) := by rw [or_any64 _ _ (by omega) (by have := ht.out; omega), hz.out, U.out.1, ht.out, hz.out]
      have e4 : (t : Int) % 4294967296 = (m : Int) := by rw [hm.out]; omega
      have e5 : (t : Int) / 4294967296 = (r : Int) := by rw [hr.out]; omega
      have HI2 : Hid (Kn.val (out ++ [m]) + Kn.pw (q + (k + 1)) * r = Kn.pw q * (Kn.val (l.take (k + 1)) * 2 ^ s)) := Lib.hid (by
        rw [hm.out, hr.out]
        exact Kn.app_step I.len hlt HI.out (by rw [ht.out, hz.out]) hx.out)
      have ho := I.own
      have hz9 := I.hz
      clear HI U hyl
      go_wp2_with (at_builtin; refine wpList_append_own _ rfl _ _ 22 rfl wb.heap.size 88 i0 (.int .u32 0) 1 4 Tryz.underlying22 hi hz0 hz1 hz2 rfl (by decide) _ _ _ rfl (ho.alloc _) ⟨_, 0, none⟩ 1 1 [.int .u32 (m : Int)] rfl rfl ?c31 ?c32 ?c33 ?c34 ?c35 ?_)
      try (case c31 => exact cell_one_new _ _ _)
      try (case c32 => first | rfl | (intro u hu; simp at hu; subst hu; rfl))
      try (case c33 => first | omega | (unfold maxLen; omega))
      try (case c34 => omega)
      try (case c35 => first | omega | (simp; omega))
      intro v' w3 hown' hgrow _
      have J := I.grown (x := m) hm0 hown' hgrow
      clear hown' hgrow ho I
      go_wp2_with fail
      go_roundw
      case rel => exact ⟨k + 1, r, _, by omega, by go_num, rfl, hr0, J, HI2⟩
      case measure => simp [intOf]; omega
    · obtain rfl : k = l.length := by omega
      have HV : Hid (Kn.iv p (out ++ [cr]) = x * ((2 ^ K : Nat) : Int)) := Lib.hid (by
        have h1 := HI.out
        rw [List.take_of_length_le (Nat.le_refl _)] at h1
        have h2 := Kn.iv_scale p (m := out ++ [cr]) (l := l) (f := 2 ^ K) (by rw [← HKK.out]; exact Kn.app_fin I.len h1)
        rw [h2, X.val])
      clear HI
      have em : (cr : Int) % 4294967296 = (cr : Int) := by omega
      have wcr : IntKind.u32.wrap (cr : Int) = (cr : Int) := wrap32_nat (by omega)
      have HCR := Lib.hid hcrl
      go_wp2_with fail
      have T2 := t2.below I.bel t2.lt
      have I' : Ad wb.heap.size wb wr.drew _ (q + l.length) out := ⟨I.own, I.len, I.wd, I.hz, bDrew1 I.bel⟩
      have ho := I.own
      have hz9 : wb.heap.size ≤ wr.heap.size := I.hz
      have j0 := T2.drew.c0
      have j1 : ∀ o, (wr.drew.alloc o).cell? ⟨w.heap.size, 0, none⟩ = some (.bool p) := fun o => (T2.drew.alloc o).c0
      have j2 : ∀ o, (wr.alloc o).drew.cell? ⟨w.heap.size, 0, none⟩ = some (.bool p) := fun o => (T2.alloc o).drew.c0
      clear I T2 hcr hcrl
      go_region_held3 (fun w' => w'.cell? ⟨w.heap.size, 0, none⟩ = some (.bool p)) (first | exact j0 | with_reducible exact j2 _ | with_reducible exact j1 _ | exact kg | exact KS.out.c0)
        ((
          refine step_append_lies _ (by rfl) _ _ 22 (by rfl) wb.heap.size 88 i0 (.int .u32 0) 1 4 Tryz.underlying22 hi hz0 hz1 hz2 (by decide) (by decide) _ _ _ (by rfl) (ho.alloc _) ⟨wr.heap.size, 0, none⟩ 1 1 [.int .u32 (cr : Int)] (by rfl) (by rfl) (cell_one_new _ _ _) (fun u hu => by simp at hu; subst hu; rfl) (by decide) (by unfold maxLen; omega) (by omega) (by simp; omega) _ rfl ?_
          intro g cap w8 hown8 hgrow hat hlt8
          have J := I'.grown (x := cr) HCR.out hown8 hgrow
          have T2 := t2.below J.bel t2.lt
          have T4 := t4.below J.bel t4.lt
          have kg := T2.c0
          have d0 := T4.c0
          have d1 := T4.c1
          have f0 := T4.fr 0
          have f1 := T4.fr 1
          have KS := Lib.hid (T2.far2 (g := w.heap.size + 1) (by omega) (.bool p) (.slice (some ⟨g, 0, none⟩) (q + l.length + 1) cap))
          have R := Lib.hid (T4.put2 (.bool p) (.slice (some ⟨g, 0, none⟩) (q + l.length + 1) cap))
          have JJ := Lib.hid J
          have TT := Lib.hid T4
          clear J T2 T4 hown8 hgrow hat hlt8 j0 j1 j2 ho))
      go_wp2_with fail
      have r0 := R.out.c0
      have r1 := R.out.c1
      unfold set2 at r0 r1
      refine bodyPost_ret (v := .agg #[.bool p, .slice (some ⟨g, 0, none⟩) (q + l.length + 1) cap]) (by simp [results, Tryz.results79, go_sem, r0, r1]) rfl ?_
      obtain ⟨A', c', hv, hc⟩ := own_slice JJ.out.own
      injection hv with hv1 _ hv3
      subst hv1
      subst hv3
      have hlen := JJ.out.len
      refine ⟨p, _, cap, out ++ [cr], by rw [hlen], ?_, below_set2 (bel.trans (JJ.out.bel.mono bel.size)) (b := w.heap.size + 1) (by omega) _ _⟩
      exact Iv.put2 ⟨Sl.of_own JJ.out.own JJ.out.wd hc hlen, HV.out, by rw [hlen, ← HQ.out]; have := h.len; omega⟩ TT.out _ _
end Go.Proofs.YtkpomjdablopaaaGreatDoor
/- Walks: Bits of both, the reference's Valid. -/
namespace Go.Proofs.YtkpomjdablopaaaGreatDoor
open Go.RowKit
set_option linter.unusedVariables false

/-- the number of bits of a row without zeros at its end -/
def bitsOf (l : List Nat) : Nat := if l.length = 0 then 0 else 32 * (l.length - 1) + Lib.bitLen (l.getD (l.length - 1) 0)

set_option maxRecDepth 100000 in
set_option maxHeartbeats 400000 in
theorem bits_any (neg : Bool) (A : Option Addr) (c : Nat) (ws : List Nat) (w : World) (h : Sl w w.heap.size A c ws) (hl : ws.length ≤ 1000000) :
    Calls Tryz.prog 40 #[intV neg A ws.length c] w fun e w' => e = .returned (.int .i64 (bitsOf (Kn.dig (Kn.val ws)) : Nat)) ∧ Below w.heap.size w w' := by
  have hdl := Nat.le_trans (Kn.dig_len_val h.wd) hl
  have hX := h.alloc (Nat.le_refl _) (.cells #[.bool neg, .slice A ws.length c] 24)
  have hD := hX.trim
  have HT : Hid (∀ W, Sl W w.heap.size A c ws → Calls Tryz.prog 65 #[.slice A ws.length c] W fun e w' => e = .returned (.slice A (Kn.dig (Kn.val ws)).length c) ∧ W = w') := Lib.hid (fun W h => trim_any A c ws W _ h (by omega))
  revert hD hdl HT
  generalize Kn.dig (Kn.val ws) = l
  intro hdl hD HT
  unfold intV
  by_cases h0 : l.length = 0
  · have hm0 : ((l.length : Int) == 0) = true := by simp [h0]
    have hb : Hid (bitsOf l = 0) := Lib.hid (by unfold bitsOf; rw [if_pos h0])
    have H0 := Lib.hid h0
    clear h0
    go_enter Tryz.func40, Tryz.ntmps40
    go_wp2_with (go_at_call 65; refine (HT.out _ hX).mono ?_; rintro e w' ⟨rfl, rfl⟩)
    go_ret
    exact ⟨ret_int (by rw [hb.out]; rfl), (Below.refl _ _).alloc (Nat.le_refl _) _⟩
  · have hm0 : ((l.length : Int) == 0) = false := beq_eq_false_iff_ne.2 (by omega)
    have hp : 0 < l.length := by omega
    obtain ⟨b, off, x, rfl, hbb, hc, hx, hx2⟩ := hD.word (k := l.length - 1) (by omega)
    have hb : Hid (bitsOf l = 32 * (l.length - 1) + Lib.bitLen x) := Lib.hid (by unfold bitsOf; rw [if_neg h0, hx.out])
    have H0 := Lib.hid h0
    clear h0
    have e1 : ((l.length : Int) - 1).toNat = l.length - 1 := by omega
    have e2 : (0 : Int) ≤ (l.length : Int) - 1 := by omega
    obtain ⟨k, hk⟩ : ∃ k, Hid (k = Lib.bitLen x) := ⟨_, Lib.hid rfl⟩
    have hk2 : k ≤ 64 := by rw [hk.out]; exact Lib.bitLen_le x 64 (by decide) (by omega)
    have HL : Hid (∀ W, Calls Tryz.prog 77 #[.int .u32 (x : Int)] W fun e w' => e = .returned (.int .i64 (k : Int)) ∧ W = w') := Lib.hid (fun W => by
      have := Tryz.bits_Len32 (x : Int) W (by omega) (by omega)
      rw [hk.out]
      exact this.mono fun e w' ⟨he, hw⟩ => ⟨by rw [he]; simp, hw.symm⟩)
    go_enter Tryz.func40, Tryz.ntmps40
    go_wp2_with (first
      | (go_at_call 65; refine (HT.out _ hX).mono ?_; rintro e w' ⟨rfl, rfl⟩)
      | (go_at_call 77; refine (HL.out _).mono ?_; rintro e w' ⟨rfl, rfl⟩))
    go_ret
    exact ⟨ret_int (by rw [hb.out, ← hk.out]; omega), (Below.refl _ _).alloc (Nat.le_refl _) _⟩

end Go.Proofs.YtkpomjdablopaaaGreatDoor
/- Plain laws of binary logarithms. -/
namespace Go.Proofs.YtkpomjdablopaaaGreatDoor
open Go.RowKit
set_option linter.unusedVariables false

theorem bits_bounds {n : Nat} (h : 0 < n) : 1 ≤ bitsOf (Kn.dig n) ∧ 2 ^ (bitsOf (Kn.dig n) - 1) ≤ n ∧ n < 2 ^ bitsOf (Kn.dig n) := by
  have hl := Kn.dig_len_pos.2 h
  obtain ⟨m, hm⟩ : ∃ m, (Kn.dig n).length = m + 1 := ⟨(Kn.dig n).length - 1, by omega⟩
  have h1 := Kn.val_top1 hm
  have h2 := Kn.val_take_lt (Kn.dig_wd n) m
  have h3 := Kn.dig_last h
  rw [hm, Nat.add_sub_cancel] at h3
  have h4 := (Kn.dig_wd n).getD m
  rw [Kn.val_dig] at h1
  unfold bitsOf
  rw [if_neg (by omega), hm, Nat.add_sub_cancel]
  generalize (Kn.dig n).getD m 0 = t at h1 h3 h4 ⊢
  have hb := Lib.bitLenAux_bounds 64 t (by omega) (by omega)
  have hb' : Lib.bitLen t = Lib.bitLenAux 64 t := rfl
  rw [hb']
  generalize Lib.bitLenAux 64 t = b at hb ⊢
  obtain ⟨hb1, hb2, hb3⟩ := hb
  have ep : Kn.pw m = 2 ^ (32 * m) := by unfold Kn.pw; rw [Nat.pow_mul]
  have e1 : 2 ^ (32 * m + b - 1) = Kn.pw m * 2 ^ (b - 1) := by rw [ep, ← Nat.pow_add, show 32 * m + b - 1 = 32 * m + (b - 1) by omega]
  have e2 : 2 ^ (32 * m + b) = Kn.pw m * 2 ^ b := by rw [ep, ← Nat.pow_add]
  refine ⟨by omega, ?_, ?_⟩
  · rw [e1]
    have := Nat.mul_le_mul_left (Kn.pw m) hb2
    omega
  · rw [e2]
    have h5 : Kn.pw m * (t + 1) ≤ Kn.pw m * 2 ^ b := Nat.mul_le_mul_left _ hb3
    rw [Nat.mul_add, Nat.mul_one] at h5
    omega
theorem bits_le {n k : Nat} (h : 0 < n) (hk : n < Kn.pw k) : bitsOf (Kn.dig n) ≤ 32 * k := by
  obtain ⟨h1, h2, _⟩ := bits_bounds h
  have ep : Kn.pw k = 2 ^ (32 * k) := by unfold Kn.pw; rw [Nat.pow_mul]
  rw [ep] at hk
  have := (Nat.pow_lt_pow_iff_right (a := 2) (by decide)).1 (Nat.lt_of_le_of_lt h2 hk)
  omega
/-- is two to the k-th at most X / Y? -/
def leP (k : Int) (X Y : Nat) : Prop := 2 ^ k.toNat * Y ≤ X * 2 ^ (-k).toNat
/-- is it less? -/
def ltP (k : Int) (X Y : Nat) : Prop := 2 ^ k.toNat * Y < X * 2 ^ (-k).toNat
theorem leP_scale {k : Int} {X Y c : Nat} (h : 0 < c) : leP k (X * c) (Y * c) ↔ leP k X Y := by
  unfold leP
  rw [← Nat.mul_assoc, Nat.mul_right_comm X]
  exact Nat.mul_le_mul_right_iff h
theorem ltP_scale {k : Int} {X Y c : Nat} (h : 0 < c) : ltP k (X * c) (Y * c) ↔ ltP k X Y := by
  unfold ltP
  rw [← Nat.mul_assoc, Nat.mul_right_comm X]
  exact Nat.mul_lt_mul_right h
/-- over one power -/
theorem leP_at {k : Int} {X Y M : Nat} (hM : (-(M : Int)) ≤ k) : leP k X Y ↔ 2 ^ (k + M).toNat * Y ≤ X * 2 ^ M := by
  unfold leP
  obtain ⟨r, hr⟩ : ∃ r, r = M - (-k).toNat := ⟨_, rfl⟩
  have e1 : 2 ^ (k + M).toNat = 2 ^ k.toNat * 2 ^ r := by rw [← Nat.pow_add]; congr 1; omega
  have e2 : 2 ^ M = 2 ^ (-k).toNat * 2 ^ r := by rw [← Nat.pow_add]; congr 1; omega
  rw [e1, e2, Nat.mul_right_comm, ← Nat.mul_assoc]
  exact (Nat.mul_le_mul_right_iff (Nat.pow_pos (by decide))).symm
theorem ltP_at {k : Int} {X Y M : Nat} (hM : (-(M : Int)) ≤ k) : ltP k X Y ↔ 2 ^ (k + M).toNat * Y < X * 2 ^ M := by
  unfold ltP
  obtain ⟨r, hr⟩ : ∃ r, r = M - (-k).toNat := ⟨_, rfl⟩
  have e1 : 2 ^ (k + M).toNat = 2 ^ k.toNat * 2 ^ r := by rw [← Nat.pow_add]; congr 1; omega
  have e2 : 2 ^ M = 2 ^ (-k).toNat * 2 ^ r := by rw [← Nat.pow_add]; congr 1; omega
  rw [e1, e2, Nat.mul_right_comm, ← Nat.mul_assoc]
  exact (Nat.mul_lt_mul_right (Nat.pow_pos (by decide))).symm
theorem leP_mono {i k : Int} {X Y : Nat} (hik : i ≤ k) (h : leP k X Y) : leP i X Y := by
  rw [leP_at (M := i.natAbs + k.natAbs) (by omega)] at h ⊢
  refine Nat.le_trans (Nat.mul_le_mul_right _ (Nat.pow_le_pow_right (by decide) ?_)) h
  omega
theorem ltP_mono {i k : Int} {X Y : Nat} (hik : i ≤ k) (h : ltP k X Y) : ltP i X Y := by
  rw [ltP_at (M := i.natAbs + k.natAbs) (by omega)] at h ⊢
  refine Nat.lt_of_le_of_lt (Nat.mul_le_mul_right _ (Nat.pow_le_pow_right (by decide) ?_)) h
  omega
/-- the bits alone determine the logarithm but for one -/
theorem log_start {X Y : Nat} (hX : 0 < X) (hY : 0 < Y) : leP ((bitsOf (Kn.dig X) : Int) - (bitsOf (Kn.dig Y) : Int) - 1) X Y ∧ ¬ leP ((bitsOf (Kn.dig X) : Int) - (bitsOf (Kn.dig Y) : Int) + 1) X Y := by
  obtain ⟨a1, a2, a3⟩ := bits_bounds hX
  obtain ⟨b1, b2, b3⟩ := bits_bounds hY
  generalize bitsOf (Kn.dig X) = a at *
  generalize bitsOf (Kn.dig Y) = b at *
  constructor
  · rw [leP_at (M := b) (by omega), show ((a : Int) - (b : Int) - 1 + (b : Int)).toNat = a - 1 by omega]
    exact Nat.mul_le_mul a2 (Nat.le_of_lt b3)
  · rw [leP_at (M := b) (by omega), show ((a : Int) - (b : Int) + 1 + (b : Int)).toNat = a + 1 by omega, Nat.not_le]
    have e : 2 ^ (a + 1) = 2 ^ a * 2 := Nat.pow_succ ..
    have e2 : 2 ^ b = 2 * 2 ^ (b - 1) := by rw [← Nat.pow_succ']; congr 1; omega
    rw [e, e2, Nat.mul_assoc, ← Nat.mul_assoc X]
    have h1 : X * 2 < 2 ^ a * 2 := by omega
    calc X * 2 * 2 ^ (b - 1) ≤ X * 2 * Y := Nat.mul_le_mul_left _ b2
      _ < 2 ^ a * 2 * Y := Nat.mul_lt_mul_of_pos_right h1 hY
      _ = 2 ^ a * (2 * Y) := Nat.mul_assoc ..
/-- the floor of the logarithm of a fraction above 0 -/
def isL (z : Rat) (k : Int) : Prop := leP k z.num.natAbs z.den ∧ ¬ leP (k + 1) z.num.natAbs z.den
/-- its ceiling -/
def isC (z : Rat) (k : Int) : Prop := ltP (k - 1) z.num.natAbs z.den ∧ ¬ ltP k z.num.natAbs z.den
theorem isL_uniq {z : Rat} {i k : Int} (hi : isL z i) (hk : isL z k) : i = k := by
  rcases Int.lt_trichotomy i k with h | h | h
  · exact absurd (leP_mono (show i + 1 ≤ k by omega) hk.1) hi.2
  · exact h
  · exact absurd (leP_mono (show k + 1 ≤ i by omega) hi.1) hk.2
theorem isC_uniq {z : Rat} {i k : Int} (hi : isC z i) (hk : isC z k) : i = k := by
  rcases Int.lt_trichotomy i k with h | h | h
  · exact absurd (ltP_mono (show i ≤ k - 1 by omega) hk.1) hi.2
  · exact h
  · exact absurd (ltP_mono (show k ≤ i - 1 by omega) hi.1) hk.2
/-- the parts of a fraction above 0, of whatever form -/
theorem parts_scale {x y : Int} (hy : 0 < y) (hx : 0 < x) : ∃ c : Nat, 0 < c ∧ x.natAbs = (Rat.divInt x y).num.natAbs * c ∧ y.natAbs = (Rat.divInt x y).den * c := by
  obtain ⟨m, hm, e1, e2⟩ := Rat.divInt_num_den (n' := (Rat.divInt x y).num) (d' := (Rat.divInt x y).den) (z' := (Rat.divInt x y).den_nz) (c := (Rat.divInt x y).reduced) (show y ≠ 0 by omega) rfl
  refine ⟨m.natAbs, by omega, ?_, ?_⟩
  · rw [← Int.natAbs_mul, ← e1]
  · have := congrArg Int.natAbs e2
    rw [Int.natAbs_mul, Int.natAbs_natCast] at this
    exact this
theorem isL_of {x y : Int} {z : Rat} {k : Int} (hy : 0 < y) (hx : 0 < x) (hz : Rat.divInt x y = z) : isL z k ↔ (leP k x.natAbs y.natAbs ∧ ¬ leP (k + 1) x.natAbs y.natAbs) := by
  obtain ⟨c, hc, e1, e2⟩ := parts_scale hy hx
  rw [hz] at e1 e2
  unfold isL
  rw [e1, e2, leP_scale hc, leP_scale hc]
theorem isC_of {x y : Int} {z : Rat} {k : Int} (hy : 0 < y) (hx : 0 < x) (hz : Rat.divInt x y = z) : isC z k ↔ (ltP (k - 1) x.natAbs y.natAbs ∧ ¬ ltP k x.natAbs y.natAbs) := by
  obtain ⟨c, hc, e1, e2⟩ := parts_scale hy hx
  rw [hz] at e1 e2
  unfold isC
  rw [e1, e2, ltP_scale hc, ltP_scale hc]
/-- the comparison of x / y with a power of two -/
def cwp (x y k : Int) : Int := if k < 0 then cmpI (x * ((2 ^ (-k).toNat : Nat) : Int)) y else cmpI x (y * ((2 ^ k.toNat : Nat) : Int))
theorem cwp_sign {x y k : Int} (hy : 0 < y) (hx : 0 < x) : (cwp x y k < 0 ↔ ¬ leP k x.natAbs y.natAbs) ∧ (0 < cwp x y k ↔ ltP k x.natAbs y.natAbs) := by
  obtain ⟨X, rfl⟩ : ∃ X : Nat, x = (X : Int) := ⟨x.toNat, by omega⟩
  obtain ⟨Y, rfl⟩ : ∃ Y : Nat, y = (Y : Int) := ⟨y.toNat, by omega⟩
  rw [Int.natAbs_natCast, Int.natAbs_natCast]
  unfold cwp leP ltP
  by_cases hk : k < 0
  · rw [if_pos hk, show k.toNat = 0 by omega, Nat.pow_zero, Nat.one_mul, ← Int.natCast_mul, Nat.not_le]
    unfold cmpI
    rcases Nat.lt_trichotomy (X * 2 ^ (-k).toNat) Y with h | h | h
    · rw [if_pos (by omega)]; omega
    · rw [if_neg (by omega), if_neg (by omega)]; omega
    · rw [if_neg (by omega), if_pos (by omega)]; omega
  · rw [if_neg hk, show (-k).toNat = 0 by omega, Nat.pow_zero, Nat.mul_one, ← Int.natCast_mul, Nat.not_le, Nat.mul_comm Y]
    unfold cmpI
    rcases Nat.lt_trichotomy X (2 ^ k.toNat * Y) with h | h | h
    · rw [if_pos (by omega)]; omega
    · rw [if_neg (by omega), if_neg (by omega)]; omega
    · rw [if_neg (by omega), if_pos (by omega)]; omega
end Go.Proofs.YtkpomjdablopaaaGreatDoor
/- Walks of package rational: compareWithPower. -/
namespace Go.Proofs.YtkpomjdablopaaaGreatDoor
open Go.RowKit
set_option linter.unusedVariables false

set_option maxRecDepth 100000 in
set_option maxHeartbeats 3000000 in
theorem cwp_neg {x y k : Int} {n : Nat} {p : Bool} {A : Option Addr} {c : Nat} {l : List Nat} {q : Bool} {B : Option Addr} {d : Nat} {m : List Nat} {w : World} (h1 : Iv w p A c l x n) (h2 : Iv w q B d m y n) (hn : n ≤ 50) (hkb : -1500 ≤ k ∧ k ≤ 1500) (hk : k < 0) :
    Calls Tryz.prog 41 #[.agg #[.bool p, .slice A l.length c], .agg #[.bool q, .slice B m.length d], .int .i64 k] w fun e w' => e = .returned (.int .i64 (cwp x y k)) ∧ Below w.heap.size w w' := by
  obtain ⟨j, hj⟩ : ∃ j : Nat, j = (-k).toNat := ⟨_, rfl⟩
  obtain ⟨R, hR⟩ : ∃ R : Int, R = cwp x y k := ⟨_, rfl⟩
  rw [← hR]
  have HE : Hid (cmpI (x * ((2 ^ j : Nat) : Int)) y = R) := Lib.hid (by rw [hR, hj]; unfold cwp; rw [if_pos hk])
  have HTP := Lib.hid (fun (W : World) (h : Iv W p A c l x n) => timesPower_any j h (by omega) (by omega))
  have HCM := Lib.hid (fun (W : World) (p3 : Bool) (A3 : Option Addr) (c3 : Nat) (l3 : List Nat) (h : Iv W p3 A3 c3 l3 (x * ((2 ^ j : Nat) : Int)) (j / 32 + n + 1)) (h' : Iv W q B d m y n) => (by have h := gcmp h h' (by omega) (by omega); rw [HE.out] at h; exact h : Calls Tryz.prog 78 #[.agg #[.bool p3, .slice A3 l3.length c3], .agg #[.bool q, .slice B m.length d]] W fun e w' => e = .returned (.int .i64 R) ∧ Below W.heap.size W w'))
  have k1 : k < 0 := hk
  have k2 : decide (k < 0) = true := decide_eq_true hk
  have k3 : IntKind.i64.wrap (-k) = (j : Int) := by rw [IntWalk.i64_in _ (by omega)]; omega
  clear hj hR hk hn hkb
  go_enter Tryz.func41, Tryz.ntmps41
  go_wp2_with fail
  have t3 : Two ((w.alloc (.cells #[.bool p, .slice A l.length c] 24)).alloc (.cells #[.bool q, .slice B m.length d] 24)) w.heap.size (.bool p) (.slice A l.length c) := (Two.new_ w (.bool p) (.slice A l.length c) 24).alloc _
  have t4 : Two ((w.alloc (.cells #[.bool p, .slice A l.length c] 24)).alloc (.cells #[.bool q, .slice B m.length d] 24)) (w.heap.size + 1) (.bool q) (.slice B m.length d) := by simpa only [World.size_alloc, Nat.add_assoc, Nat.reduceAdd] using Two.new_ (w.alloc (.cells #[.bool p, .slice A l.length c] 24)) (.bool q) (.slice B m.length d) 24
  have bel : Below w.heap.size w ((w.alloc (.cells #[.bool p, .slice A l.length c] 24)).alloc (.cells #[.bool q, .slice B m.length d] 24)) := ((Below.refl _ _).alloc (Nat.le_refl _) _).alloc (by simp only [World.size_alloc]; omega) _
  generalize ((w.alloc (.cells #[.bool p, .slice A l.length c] 24)).alloc (.cells #[.bool q, .slice B m.length d] 24)) = wx at t3 t4 bel ⊢
  replace t3 := t3.drew
  replace t4 := t4.drew
  replace bel := bDrew1 bel
  have X := h1.below bel
  have Y := h2.below bel
  go_region_held3 (fun w' => w'.cell? ⟨w.heap.size, 0, none⟩ = some (.bool p) ∧ w'.cell? ⟨w.heap.size, 1, none⟩ = some (.slice A l.length c) ∧ w'.cell? ⟨w.heap.size + 1, 0, none⟩ = some (.bool q) ∧ w'.cell? ⟨w.heap.size + 1, 1, none⟩ = some (.slice B m.length d))
    (with_reducible exact ⟨t3.c0, t3.c1, t4.c0, t4.c1⟩)
    (first
      | (go_at_call 79; (with_reducible refine (HTP.out _ X).mono ?_); rintro e wa ⟨p3, A3, c3, l3, rfl, E3, hb⟩; replace t3 := t3.below hb t3.lt; replace t4 := t4.below hb t4.lt; replace bel := bel.trans (hb.mono bel.size); replace X := X.below hb; replace Y := Y.below hb; clear hb)
      | (go_at_call 78; (with_reducible refine (HCM.out _ _ _ _ _ E3 Y).mono ?_); rintro e wa ⟨rfl, hb⟩; replace t3 := t3.below hb t3.lt; replace t4 := t4.below hb t4.lt; replace bel := bel.trans (hb.mono bel.size); replace X := X.below hb; replace Y := Y.below hb; clear hb))
  go_wp2_with fail
  go_ret
  exact ⟨rfl, bel⟩

set_option maxRecDepth 100000 in
set_option maxHeartbeats 3000000 in
theorem cwp_pos {x y k : Int} {n : Nat} {p : Bool} {A : Option Addr} {c : Nat} {l : List Nat} {q : Bool} {B : Option Addr} {d : Nat} {m : List Nat} {w : World} (h1 : Iv w p A c l x n) (h2 : Iv w q B d m y n) (hn : n ≤ 50) (hkb : -1500 ≤ k ∧ k ≤ 1500) (hk : ¬ k < 0) :
    Calls Tryz.prog 41 #[.agg #[.bool p, .slice A l.length c], .agg #[.bool q, .slice B m.length d], .int .i64 k] w fun e w' => e = .returned (.int .i64 (cwp x y k)) ∧ Below w.heap.size w w' := by
  obtain ⟨j, hj⟩ : ∃ j : Nat, j = k.toNat := ⟨_, rfl⟩
  obtain ⟨R, hR⟩ : ∃ R : Int, R = cwp x y k := ⟨_, rfl⟩
  rw [← hR]
  have HE : Hid (cmpI x (y * ((2 ^ j : Nat) : Int)) = R) := Lib.hid (by rw [hR, hj]; unfold cwp; rw [if_neg hk])
  have HTP := Lib.hid (fun (W : World) (h : Iv W q B d m y n) => timesPower_any j h (by omega) (by omega))
  have HCM := Lib.hid (fun (W : World) (p3 : Bool) (A3 : Option Addr) (c3 : Nat) (l3 : List Nat) (h' : Iv W p A c l x n) (h : Iv W p3 A3 c3 l3 (y * ((2 ^ j : Nat) : Int)) (j / 32 + n + 1)) => (by have h := gcmp h' h (by omega) (by omega); rw [HE.out] at h; exact h : Calls Tryz.prog 78 #[.agg #[.bool p, .slice A l.length c], .agg #[.bool p3, .slice A3 l3.length c3]] W fun e w' => e = .returned (.int .i64 R) ∧ Below W.heap.size W w'))
  obtain rfl : k = (j : Int) := by omega
  have k1 : ¬ ((j : Int) < 0) := hk
  have k2 : decide ((j : Int) < 0) = false := decide_eq_false hk
  clear hj hR hk hn hkb
  go_enter Tryz.func41, Tryz.ntmps41
  go_wp2_with fail
  have t3 : Two ((w.alloc (.cells #[.bool p, .slice A l.length c] 24)).alloc (.cells #[.bool q, .slice B m.length d] 24)) w.heap.size (.bool p) (.slice A l.length c) := (Two.new_ w (.bool p) (.slice A l.length c) 24).alloc _
  have t4 : Two ((w.alloc (.cells #[.bool p, .slice A l.length c] 24)).alloc (.cells #[.bool q, .slice B m.length d] 24)) (w.heap.size + 1) (.bool q) (.slice B m.length d) := by simpa only [World.size_alloc, Nat.add_assoc, Nat.reduceAdd] using Two.new_ (w.alloc (.cells #[.bool p, .slice A l.length c] 24)) (.bool q) (.slice B m.length d) 24
  have bel : Below w.heap.size w ((w.alloc (.cells #[.bool p, .slice A l.length c] 24)).alloc (.cells #[.bool q, .slice B m.length d] 24)) := ((Below.refl _ _).alloc (Nat.le_refl _) _).alloc (by simp only [World.size_alloc]; omega) _
  generalize ((w.alloc (.cells #[.bool p, .slice A l.length c] 24)).alloc (.cells #[.bool q, .slice B m.length d] 24)) = wx at t3 t4 bel ⊢
  replace t3 := t3.drew
  replace t4 := t4.drew
  replace bel := bDrew1 bel
  have X := h1.below bel
  have Y := h2.below bel
  go_region_held3 (fun w' => w'.cell? ⟨w.heap.size, 0, none⟩ = some (.bool p) ∧ w'.cell? ⟨w.heap.size, 1, none⟩ = some (.slice A l.length c) ∧ w'.cell? ⟨w.heap.size + 1, 0, none⟩ = some (.bool q) ∧ w'.cell? ⟨w.heap.size + 1, 1, none⟩ = some (.slice B m.length d))
    (with_reducible exact ⟨t3.c0, t3.c1, t4.c0, t4.c1⟩)
    (first
      | (go_at_call 79; (with_reducible refine (HTP.out _ Y).mono ?_); rintro e wa ⟨p3, A3, c3, l3, rfl, E3, hb⟩; replace t3 := t3.below hb t3.lt; replace t4 := t4.below hb t4.lt; replace bel := bel.trans (hb.mono bel.size); replace X := X.below hb; replace Y := Y.below hb; clear hb)
      | (go_at_call 78; (with_reducible refine (HCM.out _ _ _ _ _ X E3).mono ?_); rintro e wa ⟨rfl, hb⟩; replace t3 := t3.below hb t3.lt; replace t4 := t4.below hb t4.lt; replace bel := bel.trans (hb.mono bel.size); replace X := X.below hb; replace Y := Y.below hb; clear hb))
  go_wp2_with fail
  go_ret
  exact ⟨rfl, bel⟩

theorem gcwp {x y k : Int} {n : Nat} {p : Bool} {A : Option Addr} {c : Nat} {l : List Nat} {q : Bool} {B : Option Addr} {d : Nat} {m : List Nat} {w : World} (h1 : Iv w p A c l x n) (h2 : Iv w q B d m y n) (hn : n ≤ 50) (hkb : -1500 ≤ k ∧ k ≤ 1500) :
    Calls Tryz.prog 41 #[.agg #[.bool p, .slice A l.length c], .agg #[.bool q, .slice B m.length d], .int .i64 k] w fun e w' => e = .returned (.int .i64 (cwp x y k)) ∧ Below w.heap.size w w' := by
  by_cases hk : k < 0
  · exact cwp_neg h1 h2 hn hkb hk
  · exact cwp_pos h1 h2 hn hkb hk
end Go.Proofs.YtkpomjdablopaaaGreatDoor
/- Walks of package rational: Sign. -/
namespace Go.Proofs.YtkpomjdablopaaaGreatDoor
open Go.RowKit
set_option linter.unusedVariables false

theorem sign_of3 (y : Int) : y.sign = -1 ∨ y.sign = 0 ∨ y.sign = 1 := by
  rcases Int.lt_trichotomy y 0 with h | h | h
  · exact .inl (Int.sign_eq_neg_one_of_neg h)
  · exact .inr (.inl (by rw [h]; rfl))
  · exact .inr (.inr (Int.sign_eq_one_of_pos h))
/-- the world of a function of one fraction that makes nothing -/
structure Ry (w wr : World) (p : Bool) (A : Option Addr) (n c : Nat) (q : Bool) (B : Option Addr) (m d : Nat) : Prop where
  t1 : Four wr w.heap.size (.bool p) (.slice A n c) (.bool q) (.slice B m d)
  bel : Below w.heap.size w wr
section
variable {w wr wx : World} {p q : Bool} {A B : Option Addr} {n m c d : Nat}
theorem Ry.below (h : Ry w wr p A n c q B m d) (hb : Below wr.heap.size wr wx) : Ry w wx p A n c q B m d := ⟨h.t1.below hb h.t1.lt, h.bel.trans (hb.mono h.bel.size)⟩
theorem Ry.drew (h : Ry w wr p A n c q B m d) : Ry w wr.drew p A n c q B m d := ⟨h.t1.drew, bDrew1 h.bel⟩
end

set_option maxRecDepth 100000 in
set_option maxHeartbeats 2000000 in
theorem grsgn {x y : Int} {n : Nat} {p : Bool} {A : Option Addr} {c : Nat} {l : List Nat} {q : Bool} {B : Option Addr} {d : Nat} {m : List Nat} {w : World} (h1 : Iv w p A c l x n) (h2 : Iv w q B d m y n) (hn : n ≤ 100) :
    Calls Tryz.prog 38 #[ratV p A l.length c q B m.length d] w fun e w' => e = .returned (.int .i64 (Rat.divInt x y).num.sign) ∧ Below w.heap.size w w' := by
  rw [rq_sign]
  have H1 := Lib.hid (fun (W : World) (h : Iv W p A c l x n) => gsign h (by omega))
  have H2 := Lib.hid (fun (W : World) (h : Iv W q B d m y n) => gsign h (by omega))
  have s1 := sign_of3 x
  have s2 := sign_of3 y
  obtain ⟨a, ha⟩ : ∃ a, a = x.sign := ⟨_, rfl⟩
  obtain ⟨b, hb⟩ : ∃ b, b = y.sign := ⟨_, rfl⟩
  rw [← ha] at H1 s1 ⊢
  rw [← hb] at H2 s2 ⊢
  clear ha hb hn
  unfold ratV
  rcases s1 with rfl | rfl | rfl <;> rcases s2 with rfl | rfl | rfl
  all_goals
    go_enter Tryz.func38, Tryz.ntmps38
    go_wp2_with fail
    have i : Ry w (w.alloc (.cells #[.bool p, .slice A l.length c, .bool q, .slice B m.length d] 26)) p A l.length c q B m.length d := ⟨Four.new_ _ _ _ _ _ _, al1 _ _⟩
    revert i
    generalize w.alloc (.cells #[.bool p, .slice A l.length c, .bool q, .slice B m.length d] 26) = wx
    intro i
    replace i := i.drew
    have X := h1.below i.bel
    have Y := h2.below i.bel
    go_region_held3 (fun w' => w'.cell? ⟨w.heap.size, 0, none⟩ = some (.bool p) ∧ w'.cell? ⟨w.heap.size, 1, none⟩ = some (.slice A l.length c) ∧ w'.cell? ⟨w.heap.size, 2, none⟩ = some (.bool q) ∧ w'.cell? ⟨w.heap.size, 3, none⟩ = some (.slice B m.length d))
      (with_reducible exact ⟨i.t1.c0, i.t1.c1, i.t1.c2, i.t1.c3⟩)
      (first
        | (go_at_call 51; (with_reducible refine (H1.out _ X).mono ?_); rintro e w5 ⟨rfl, hb⟩; replace i := i.below hb; replace X := X.below hb; replace Y := Y.below hb; clear hb)
        | (go_at_call 51; (with_reducible refine (H2.out _ Y).mono ?_); rintro e w6 ⟨rfl, hb⟩; replace i := i.below hb; replace X := X.below hb; replace Y := Y.below hb; clear hb))
    go_wp2_with fail
    go_ret
    exact ⟨rfl, i.bel⟩
end Go.Proofs.YtkpomjdablopaaaGreatDoor
