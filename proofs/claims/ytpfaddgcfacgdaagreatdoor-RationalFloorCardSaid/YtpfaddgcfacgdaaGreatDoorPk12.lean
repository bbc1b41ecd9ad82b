/- My texts, packed: R2, Rg, R3, R4, Row2, Row3, Rp, Rr. -/
import Derived.Test.YtpfaddgcfacgdaaGreatDoorPk11
import Derived.Shelf.Strconv.AtoiAll
import Derived.Lib.SmallJoins
import Derived.Test.YtpfaddgcfacgdaaGreatDoorPk5
import Derived.Lay
import Derived.Deep.DeepWitnessRowRef
import Derived.Shelf.Vars
/- Walks of package rational: isNumber; plain laws of digits. -/
namespace Go.Proofs.YtpfaddgcfacgdaaGreatDoor
open Go.RowKit
set_option linter.unusedVariables false

namespace Kt
def valF (acc : Nat) (l : List UInt8) : Nat := l.foldl (fun n c => n * 10 + (c.toNat - 48)) acc
theorem valF_cons (acc : Nat) (c : UInt8) (l : List UInt8) : valF acc (c :: l) = valF (acc * 10 + (c.toNat - 48)) l := by unfold valF; rw [List.foldl_cons]
theorem valF_mono (l : List UInt8) : ∀ acc, acc ≤ valF acc l := by
  induction l with
  | nil => intro acc; exact Nat.le_refl _
  | cons c l ih => intro acc; rw [valF_cons]; have := ih (acc * 10 + (c.toNat - 48)); omega
theorem valF_split (l : List UInt8) : ∀ acc, valF acc l = acc * 10 ^ l.length + valF 0 l := by
  induction l with
  | nil => intro acc; simp [valF]
  | cons c l ih =>
    intro acc
    rw [valF_cons, valF_cons, ih, ih (0 * 10 + (c.toNat - 48)), List.length_cons, Nat.pow_succ, Nat.add_mul, Nat.zero_mul, Nat.zero_add, Nat.mul_assoc, Nat.mul_comm 10, Nat.add_assoc]
theorem valN_app (a b : List UInt8) : valN (a ++ b) = valN a * 10 ^ b.length + valN b := by
  have e : valN (a ++ b) = valF (valN a) b := by unfold valN valF; rw [List.foldl_append]
  rw [e, valF_split]; rfl
theorem valF_lt (l : List UInt8) (h : l.all digC = true) : ∀ acc, valF acc l < (acc + 1) * 10 ^ l.length := by
  induction l with
  | nil => intro acc; simp [valF]
  | cons c l ih =>
    intro acc
    rw [List.all_cons, Bool.and_eq_true] at h
    have hc := h.1
    unfold digC at hc
    simp only [Bool.and_eq_true, decide_eq_true_eq] at hc
    have h1 := ih h.2 (acc * 10 + (c.toNat - 48))
    rw [valF_cons, List.length_cons, Nat.pow_succ, Nat.mul_comm (10 ^ l.length) 10, ← Nat.mul_assoc]
    refine Nat.lt_of_lt_of_le h1 (Nat.mul_le_mul_right _ ?_)
    omega
theorem valN_lt (l : List UInt8) (h : l.all digC = true) : valN l < 10 ^ l.length := by
  have := valF_lt l h 0
  rwa [Nat.zero_add, Nat.one_mul] at this
theorem parse_dig (l : List UInt8) : ∀ acc, l.all digC = true → Lib.parseUint10 acc l = .ok (valF acc l) ∨ (Lib.parseUint10 acc l = .range ∧ 18446744073709551616 ≤ valF acc l) := by
  induction l with
  | nil => intro acc _; exact .inl rfl
  | cons c l ih =>
    intro acc h
    rw [List.all_cons, Bool.and_eq_true] at h
    have hc := h.1
    unfold digC at hc
    simp only [Bool.and_eq_true, decide_eq_true_eq] at hc
    unfold Lib.parseUint10
    rw [if_pos hc, valF_cons]
    have hm := valF_mono l (acc * 10 + (c.toNat - 48))
    by_cases h1 : 1844674407370955162 ≤ acc
    · rw [if_pos h1]; exact .inr ⟨rfl, by omega⟩
    · rw [if_neg h1]
      by_cases h2 : 18446744073709551616 ≤ acc * 10 + (c.toNat - 48)
      · rw [if_pos h2]; exact .inr ⟨rfl, by omega⟩
      · rw [if_neg h2]; exact ih _ h.2
theorem atoi_short {l : List UInt8} (h0 : l ≠ []) (h : l.all digC = true) (hl : l.length ≤ 18) : Lib.atoiAll l = .ok (valN l : Int) := by
  have hlt := valN_lt l h
  have hp10 : 10 ^ l.length ≤ 10 ^ 18 := Nat.pow_le_pow_right (by decide) hl
  have hb : valN l < 1000000000000000000 := Nat.lt_of_lt_of_le hlt hp10
  cases l with
  | nil => exact absurd rfl h0
  | cons c r =>
    have hc := h
    rw [List.all_cons, Bool.and_eq_true] at hc
    have hc := hc.1
    unfold digC at hc
    simp only [Bool.and_eq_true, decide_eq_true_eq] at hc
    have hp := parse_dig (c :: r) 0 h
    have e : Lib.parseMag (if c.toNat = 43 ∨ c.toNat = 45 then r else c :: r) = Lib.parseUint10 0 (c :: r) := by
      rw [if_neg (by omega)]; unfold Lib.parseMag; rw [if_neg (by simp)]
    unfold Lib.atoiAll
    simp only [e]
    have hv : valN (c :: r) = valF 0 (c :: r) := rfl
    rw [hv] at hb ⊢
    rcases hp with hp | ⟨hp, hb2⟩
    · rw [hp]
      dsimp only
      rw [if_neg (fun q => by omega), if_neg (fun q => by omega), if_neg (by omega)]
    · omega
end Kt

set_option maxRecDepth 100000 in
set_option maxHeartbeats 1000000 in
theorem isNumberR_any (s : ByteArray) (hs : s.size ≤ 1000000) (w : World) :
    Calls Tryz.prog 76 #[.string s] w fun e w' => e = .returned (.bool (Kt.isNum (bs s))) ∧ Below w.heap.size w w' := by
  obtain ⟨T, hT⟩ : ∃ T, Hid (T = Lib.trimS (bs s) Kt.digs) := ⟨_, Lib.hid rfl⟩
  have ht : ∀ w, Calls Tryz.prog 103 #[.string s, .string ⟨#[48, 49, 50, 51, 52, 53, 54, 55, 56, 57]⟩] w fun e w' => e = .returned (.string (mkB T)) ∧ Below w.heap.size w w' := fun w => by rw [hT.out]; exact trim_digs s hs w
  have HT := Lib.hid ht
  clear ht
  by_cases hall : (bs s).all Kt.digC = true
  · have hE := empty_yes (t := T) (by rw [hT.out]; exact (Kt.trim_all _).2 hall)
    by_cases h0 : s.size = 0
    · have e0 : bs s = [] := List.eq_nil_of_length_eq_zero (by rw [bs_length]; exact h0)
      have q1 : s.toList.isEmpty = true := by rw [bs_toList, e0]; rfl
      have q2 : (s.toList == [48]) = false := by rw [bs_toList, e0]; rfl
      have HR : Hid (Kt.isNum (bs s) = false) := Lib.hid (by rw [e0]; rfl)
      clear hall h0 e0
      go_enter Tryz.func76, Tryz.ntmps76
      go_wp2_with (go_at_call 103; refine (HT.out _).mono ?_; rintro e w' ⟨rfl, hb⟩)
      go_ret
      exact ⟨by rw [HR.out]; rfl, hb⟩
    · have h1 : 0 < s.size := by omega
      have hd := drop_at h1
      rw [List.drop_zero] at hd
      have q1 : s.toList.isEmpty = false := by rw [bs_toList, hd]; rfl
      by_cases h48 : s[0].toNat = 48
      · have e48 : s[0] = 48 := UInt8.toNat_inj.1 h48
        have q3 : (((s[0].toNat : Nat) : Int) != 48) = false := by rw [h48]; rfl
        by_cases hone : s.size = 1
        · have e1 : bs s = [48] := by
            have hl := bs_length s
            rw [hd] at hl ⊢
            rw [e48, List.eq_nil_of_length_eq_zero (l := (bs s).drop 1) (by simp at hl; simp; omega)]
          have q2 : (s.toList == [48]) = true := by rw [bs_toList, e1]; rfl
          have HR : Hid (Kt.isNum (bs s) = true) := Lib.hid (by rw [e1]; rfl)
          clear hall hone e1 hd e48
          go_enter Tryz.func76, Tryz.ntmps76
          go_wp2_with (go_at_call 103; refine (HT.out _).mono ?_; rintro e w' ⟨rfl, hb⟩)
          go_ret
          exact ⟨by rw [HR.out]; rfl, hb⟩
        · have e1 : (bs s == [48]) = false := by
            rw [beq_eq_false_iff_ne]
            intro e
            have hl := bs_length s
            rw [e] at hl
            exact hone hl.symm
          have q2 : (s.toList == [48]) = false := by rw [bs_toList]; exact e1
          have HR : Hid (Kt.isNum (bs s) = false) := Lib.hid (by
            unfold Kt.isNum
            rw [e1, hd, e48]
            simp)
          clear hall hone e1 hd e48
          go_enter Tryz.func76, Tryz.ntmps76
          go_wp2_with (go_at_call 103; refine (HT.out _).mono ?_; rintro e w' ⟨rfl, hb⟩)
          go_ret
          exact ⟨by rw [HR.out]; rfl, hb⟩
      · have q3 : (((s[0].toNat : Nat) : Int) != 48) = true := by rw [bne_iff_ne]; omega
        have h49 : s[0] ≠ 48 := fun e => h48 (by rw [e]; rfl)
        have e1 : (bs s == [48]) = false := by
          rw [beq_eq_false_iff_ne, hd]
          intro e
          injection e with e
          exact h49 e
        have q2 : (s.toList == [48]) = false := by rw [bs_toList]; exact e1
        have HR : Hid (Kt.isNum (bs s) = true) := Lib.hid (by
          unfold Kt.isNum
          rw [e1, hall, hd]
          simp [h49])
        clear hall e1 hd h48 h49
        go_enter Tryz.func76, Tryz.ntmps76
        go_wp2_with (go_at_call 103; refine (HT.out _).mono ?_; rintro e w' ⟨rfl, hb⟩)
        go_ret
        exact ⟨by rw [HR.out]; rfl, hb⟩
  · have hE := empty_no (t := T) (by rw [hT.out]; exact fun e => hall ((Kt.trim_all _).1 e))
    have HR : Hid (Kt.isNum (bs s) = false) := Lib.hid (by unfold Kt.isNum; rw [Bool.not_eq_true] at hall; rw [hall]; rfl)
    clear hall
    go_enter Tryz.func76, Tryz.ntmps76
    go_wp2_with (go_at_call 103; refine (HT.out _).mono ?_; rintro e w' ⟨rfl, hb⟩)
    go_ret
    exact ⟨by rw [HR.out]; rfl, hb⟩
end Go.Proofs.YtpfaddgcfacgdaaGreatDoor
/- Walks of package rational: Of. -/
namespace Go.Proofs.YtpfaddgcfacgdaaGreatDoor
open Go.RowKit
set_option linter.unusedVariables false

theorem gofi {a : Int} (h : -9223372036854775808 ≤ a ∧ a ≤ 9223372036854775807) (w : World) : Calls Tryz.prog 60 #[.int .i64 a] w (GI a 2 w) :=
  (of_any a (Lib.hid h.1) (Lib.hid h.2) w).mono fun _ _ hr => GI.of hr (by
    have e : Kn.pw 2 = 18446744073709551616 := by decide
    rw [e]; omega)

set_option maxRecDepth 100000 in
set_option maxHeartbeats 2000000 in
theorem gofr {a b : Int} (ha : -9223372036854775808 ≤ a ∧ a ≤ 9223372036854775807) (hb : -9223372036854775808 ≤ b ∧ b ≤ 9223372036854775807) (h0 : b ≠ 0) (w : World) :
    Calls Tryz.prog 19 #[.int .i64 a, .int .i64 b] w (GRc (Rat.divInt a b) 2 w) := by
  have HA := Lib.hid (fun W => gofi ha W)
  have HB := Lib.hid (fun W => gofi hb W)
  obtain ⟨z, hz⟩ : ∃ z, z = Rat.divInt a b := ⟨_, rfl⟩
  rw [← hz]
  have HNW := Lib.hid (fun (W : World) (p : Bool) (A : Option Addr) (c : Nat) (l : List Nat) (q : Bool) (B : Option Addr) (d : Nat) (m : List Nat) (h1 : Cn W p A c l a 2) (h2 : Cn W q B d m b 2) => (by have h := gnew h1.iv h2.iv h0 (by decide) (by decide); rw [← hz] at h; exact h : Calls Tryz.prog 17 #[.agg #[.bool p, .slice A l.length c], .agg #[.bool q, .slice B m.length d]] W (GRc z 2 W)))
  clear ha hb h0 hz
  go_enter Tryz.func19, Tryz.ntmps19
  go_wp2_with fail
  have t3 := Four.new_ w (.bool false) (.slice none 0 0) (.bool false) (.slice none 0 0) 26
  have bel := al1 w (.cells #[.bool false, .slice none 0 0, .bool false, .slice none 0 0] 26)
  revert t3 bel
  generalize w.alloc (.cells #[.bool false, .slice none 0 0, .bool false, .slice none 0 0] 26) = w1
  intro t3 bel
  refine (HA.out w1).mono ?_
  rintro e w2 ⟨p1, A1, c1, l1, rfl, C1, hb⟩
  replace t3 := t3.below hb t3.lt
  replace bel := bel.trans (hb.mono bel.size)
  clear hb
  go_wp2_with fail
  refine (HB.out w2).mono ?_
  rintro e w3 ⟨q1, B1, d1, m1, rfl, C2, hb⟩
  replace t3 := t3.below hb t3.lt
  replace bel := bel.trans (hb.mono bel.size)
  replace C1 := C1.below hb
  clear hb
  go_wp2_with fail
  refine (HNW.out _ _ _ _ _ _ _ _ _ C1 C2).mono ?_
  rintro e w6 ⟨A3, c3, l3, A4, c4, l4, rfl, C3, hb⟩
  replace t3 := t3.below hb t3.lt
  replace bel := bel.trans (hb.mono bel.size)
  clear hb C1 C2
  have d0 := t3.c0
  have d1 := t3.c1
  have d2 := t3.c2
  have d3 := t3.c3
  have f0 := t3.fr 0
  have f1 := t3.fr 1
  have f2 := t3.fr 2
  have f3 := t3.fr 3
  have R := Lib.hid (t3.put (.bool (decide (z.num < 0))) (.slice A3 l3.length c3) (.bool false) (.slice A4 l4.length c4))
  have CR := Lib.hid (C3.put4 t3 (.bool (decide (z.num < 0))) (.slice A3 l3.length c3) (.bool false) (.slice A4 l4.length c4))
  have BL := Lib.hid (below_set4 bel (b := w.heap.size) (Nat.le_refl _) (.bool (decide (z.num < 0))) (.slice A3 l3.length c3) (.bool false) (.slice A4 l4.length c4))
  clear C3 t3 bel
  go_wp2_with fail
  have r0 := R.out.c0
  have r1 := R.out.c1
  have r2 := R.out.c2
  have r3 := R.out.c3
  unfold set4 at r0 r1 r2 r3
  refine bodyPost_ret (v := .tuple #[.agg #[.bool (decide (z.num < 0)), .slice A3 l3.length c3, .bool false, .slice A4 l4.length c4], .int .i64 0]) (by simp [results, Tryz.results19, go_sem, r0, r1, r2, r3]) rfl ?_
  exact ⟨A3, c3, l3, A4, c4, l4, rfl, CR.out, BL.out⟩
end Go.Proofs.YtpfaddgcfacgdaaGreatDoor
/- Walks of package rational: number. -/
namespace Go.Proofs.YtpfaddgcfacgdaaGreatDoor
open Go.RowKit
set_option linter.unusedVariables false

/-- the length of a string -/
def strL : Value → Nat
  | .string s => s.size
  | _ => 0
theorem ext_take (d : ByteArray) (k : Nat) : bs (d.extract 0 k) = (bs d).take k := by
  show (d.extract 0 k).data.toList = d.data.toList.take k
  rw [ByteArray.data_extract]; simp
theorem ext_drop (d : ByteArray) (k : Nat) : bs (d.extract k d.size) = (bs d).drop k := by
  show (d.extract k d.size).data.toList = d.data.toList.drop k
  rw [ByteArray.data_extract, show d.size = d.data.size from rfl]; simp
  exact List.take_of_length_le (by rw [List.length_drop, Array.length_toList]; exact Nat.le_refl _)
theorem atoi_num (s : ByteArray) (v : Int) (h : Lib.atoiAll (bs s) = .ok v) (hs : s.size ≤ 1000000) (W : World) : Calls Tryz.prog 104 #[.string s] W fun e w' => e = .returned (.tuple #[.int .i64 v, .nilIface]) ∧ Below W.heap.size W w' := by
  refine (Tryz.strconv_Atoi_ok s (by omega) v h W).mono ?_
  rintro e w' ⟨rfl, rfl | ⟨t, rfl⟩⟩
  · exact ⟨rfl, Below.refl _ _⟩
  · exact ⟨rfl, Joins.below_bytesWorld _ _ _ _ (Nat.le_refl _)⟩
section
variable {W : World} {p q : Bool} {A B : Option Addr} {c d : Nat} {l m : List Nat} {x y : Int} {n k : Nat}
theorem gmulL (h1 : Iv W p A c l x n) (h2 : Iv W q B d m y k) (hn : n ≤ 10000000) (hk : k ≤ 10000000) : Calls Tryz.prog 62 #[.agg #[.bool p, .slice A l.length c], .agg #[.bool q, .slice B m.length d]] W (GI (x * y) (n + k) W) := by
  have h := mul_any p A c l q B d m W h1.sl h2.sl (by have := h1.len; omega) (by have := h2.len; omega)
  rw [h1.val, h2.val] at h
  exact h.mono fun _ _ hr => GI.of hr (by rw [Int.natAbs_mul, Kn.pw_add]; exact Nat.mul_lt_mul'' h1.abs h2.abs)
theorem gaddL (h1 : Iv W p A c l x n) (h2 : Iv W q B d m y k) (hn : n ≤ 10000000) (hk : k ≤ 10000000) : Calls Tryz.prog 65 #[.agg #[.bool p, .slice A l.length c], .agg #[.bool q, .slice B m.length d]] W (GI (x + y) (max n k + 1) W) := by
  have h := add_any p A c l q B d m W h1.sl h2.sl (by have := h1.len; omega) (by have := h2.len; omega)
  rw [h1.val, h2.val] at h
  exact h.mono fun _ _ hr => GI.of hr (by have := pw_max h1.abs h2.abs; omega)
theorem cn_re (h : Cn W p A c l x n) (hx : x.natAbs < Kn.pw k) : Cn W p A c l x k := ⟨⟨h.iv.sl, h.iv.val, by rw [h.can.2]; exact Kn.dig_len_le hx⟩, h.can⟩
end

set_option maxRecDepth 100000 in
set_option maxHeartbeats 4000000 in
theorem number_any (s : ByteArray) (hs : s.size ≤ 100000) (hd : (bs s).all Kt.digC = true) (w : World) :
    Calls Tryz.prog 77 #[.string s] w (GI ((Kt.valN (bs s) : Nat) : Int) s.size w) := by
  obtain ⟨n, hn⟩ : ∃ n, n = s.size := ⟨_, rfl⟩
  have hlen : (bs s).length = n := by rw [bs_length, hn]
  obtain ⟨D, hD⟩ : ∃ D, D = bs s := ⟨_, rfl⟩
  have hsD : s = mkB (D.drop 0) := by rw [hD, List.drop_zero, mk_bs]
  rw [← hD] at hlen hd ⊢
  rw [← hn] at hs ⊢
  have HLEN := Lib.hid hlen
  have HDG := Lib.hid hd
  have HSD := Lib.hid hsD
  have HPW : Hid (∀ j, Kt.valN (D.take j) < Kn.pw n) := Lib.hid (fun j => by
    have h1 := Kt.valN_lt (D.take j) (List.all_eq_true.2 fun x hx => List.all_eq_true.1 hd x (List.mem_of_mem_take hx))
    have h2 : 10 ^ (D.take j).length ≤ 10 ^ n := Nat.pow_le_pow_right (by decide) (by rw [List.length_take]; omega)
    have h3 : 10 ^ n ≤ Kn.pw n := Nat.pow_le_pow_left (by decide) n
    omega)
  have HSC := Lib.hid (fun W => gofi (a := 1000000000000000000) (by omega) W)
  have HPS : Hid (∃ z : Int, z = 1000000000000000000) := Lib.hid ⟨_, rfl⟩
  clear hlen hd hsD hD hn
  go_enter Tryz.func77, Tryz.ntmps77
  go_wp2_with fail
  have t2 : Two ((w.alloc (.cells #[.bool false, .slice none 0 0] 24)).alloc (.cells #[.bool false, .slice none 0 0] 24)) w.heap.size (.bool false) (.slice none 0 0) := (Two.new_ w (.bool false) (.slice none 0 0) 24).alloc _
  have t3 : Two ((w.alloc (.cells #[.bool false, .slice none 0 0] 24)).alloc (.cells #[.bool false, .slice none 0 0] 24)) (w.heap.size + 1) (.bool false) (.slice none 0 0) := by simpa only [World.size_alloc, Nat.add_assoc, Nat.reduceAdd] using Two.new_ (w.alloc (.cells #[.bool false, .slice none 0 0] 24)) (.bool false) (.slice none 0 0) 24
  have bel : Below w.heap.size w ((w.alloc (.cells #[.bool false, .slice none 0 0] 24)).alloc (.cells #[.bool false, .slice none 0 0] 24)) := ((Below.refl _ _).alloc (Nat.le_refl _) _).alloc (by simp only [World.size_alloc]; omega) _
  generalize ((w.alloc (.cells #[.bool false, .slice none 0 0] 24)).alloc (.cells #[.bool false, .slice none 0 0] 24)) = wx at t2 t3 bel ⊢
  refine (HSC.out _).mono ?_
  rintro e w2 ⟨p1, A1, c1, l1, rfl, C1, hb⟩
  replace t2 := t2.below hb t2.lt
  replace t3 := t3.below hb t3.lt
  replace bel := bel.trans (hb.mono bel.size)
  clear hb
  obtain rfl : p1 = false := C1.can.1
  go_wp2_with fail
  have hg4 : w.heap.size + 1 < w2.heap.size := t3.lt
  have t4 : Two (w2.alloc (.cells #[.bool false, .slice A1 l1.length c1] 24)) w2.heap.size (.bool false) (.slice A1 l1.length c1) := Two.new_ w2 (.bool false) (.slice A1 l1.length c1) 24
  have bn : Below w2.heap.size w2 (w2.alloc (.cells #[.bool false, .slice A1 l1.length c1] 24)) := (Below.refl _ _).alloc (Nat.le_refl _) _
  replace t2 := t2.below bn t2.lt
  replace t3 := t3.below bn t3.lt
  replace bel := bel.trans (bn.mono bel.size)
  replace C1 := C1.below bn
  clear bn
  generalize (w2.alloc (.cells #[.bool false, .slice A1 l1.length c1] 24)) = v1 at t2 t3 bel C1 t4 ⊢
  generalize w2.heap.size = g4 at t2 t3 bel C1 t4 hg4 ⊢
  have HC0 : Cn v1 false none 0 [] ((Kt.valN (D.take 0) : Nat) : Int) n := ⟨⟨Sl.nil _ _, rfl, Nat.zero_le _⟩, rfl, Kn.dig_zero.symm⟩
  go_loopw [0] (fun v wr => ∃ j A c l, j ≤ n ∧ v = .string (mkB (D.drop j)) ∧ Two wr w.heap.size (.bool false) (.slice none 0 0) ∧ Two wr (w.heap.size + 1) (.bool false) (.slice A l.length c) ∧ Two wr g4 (.bool false) (.slice A1 l1.length c1) ∧ Cn wr false A c l ((Kt.valN (D.take j) : Nat) : Int) n ∧ Cn wr false A1 c1 l1 1000000000000000000 2 ∧ Below w.heap.size w wr ∧ Hid (j = 0 ∨ (n - j) % 18 = 0)) (fun v _ => strL v)
  case atStart => exact ⟨0, none, 0, [], Nat.zero_le _, by rw [← HSD.out], t2, t3, t4, HC0, C1, bel, Lib.hid (Or.inl rfl)⟩
  case round =>
    obtain ⟨j, A, c, l, hj, rfl, t2, t3, t4, CX, CS, bel, HJ⟩ := hrel
    obtain ⟨d, hd⟩ : ∃ d, d = mkB (D.drop j) := ⟨_, rfl⟩
    have hds : d.size = n - j := by rw [hd, mk_size, List.length_drop, HLEN.out]
    rw [← hd]
    have hdL : bs d = D.drop j := by rw [hd, bs_mk]
    by_cases hlt : j < n
    · obtain ⟨k, hk⟩ : ∃ k, k = (n - j - 1) % 18 := ⟨_, rfl⟩
      have hk2 : k + 1 ≤ n - j := by rw [hk]; have := Nat.mod_le (n - j - 1) 18; omega
      have hk18 : k ≤ 17 := by omega
      have HK : Hid (n - (j + (k + 1)) = (n - j - 1) / 18 * 18) := Lib.hid (by have := Nat.div_add_mod (n - j - 1) 18; omega)
      have e1 : ((d.size : Int) - 1) % 18 = (k : Int) := by rw [hds]; omega
      have z0 : (1 : Int) ≤ (d.size : Int) := by rw [hds]; omega
      have z1 : (k : Int) + 1 ≤ (d.size : Int) := by rw [hds]; omega
      have z2 : k + 1 ≤ d.size := by omega
      have z3 : d.size ≤ 100000 := by omega
      have z4 : (d.size : Int) ≤ 100000 := by omega
      have e2 : ((k : Int) + 1).toNat = k + 1 := by omega
      have q1 : d.toList.isEmpty = false := by rw [bs_toList]; cases hh : bs d with | nil => (rw [hdL] at hh; have := congrArg List.length hh; rw [List.length_drop, HLEN.out] at this; simp at this; omega) | cons _ _ => rfl
      obtain ⟨G, hG⟩ : ∃ G, G = (D.drop j).take (k + 1) := ⟨_, rfl⟩
      have hGl : G.length = k + 1 := by rw [hG, List.length_take, List.length_drop, HLEN.out]; omega
      have hGd : G.all Kt.digC = true := by rw [hG]; exact List.all_eq_true.2 fun x hx => List.all_eq_true.1 HDG.out x (List.mem_of_mem_drop (List.mem_of_mem_take hx))
      have hx1 : d.extract 0 (k + 1) = mkB G := bs_inj (by rw [bs_mk, hG, ← hdL]; exact ext_take d (k + 1))
      have hx2 : d.extract (k + 1) d.size = mkB (D.drop (j + (k + 1))) := bs_inj (by rw [bs_mk, ← List.drop_drop, ← hdL]; exact ext_drop d (k + 1))
      have hat := Kt.atoi_short (l := G) (by intro e; rw [e] at hGl; cases hGl) hGd (by omega)
      obtain ⟨v, hv⟩ : ∃ v, v = Kt.valN G := ⟨_, rfl⟩
      have hv2 : v < 1000000000000000000 := by
        have h1 := Kt.valN_lt G hGd
        have h2 : 10 ^ G.length ≤ 10 ^ 18 := Nat.pow_le_pow_right (by decide) (by omega)
        rw [hv]; exact Nat.lt_of_lt_of_le h1 h2
      rw [← hv] at hat
      have HAT := Lib.hid (fun (W : World) => atoi_num (d.extract 0 (k + 1)) (v : Int) (by rw [hx1, bs_mk]; exact hat) (by rw [hx1, mk_size]; omega) W)
      have HOF := Lib.hid (fun W => gofi (a := (v : Int)) (by omega) W)
      obtain ⟨X, hX⟩ : ∃ X, X = Kt.valN (D.take j) := ⟨_, rfl⟩
      rw [← hX] at CX
      have HMU := Lib.hid (fun (W : World) (h : Cn W false A c l (X : Int) n) (h' : Cn W false A1 c1 l1 1000000000000000000 2) => gmulL h.iv h'.iv (by omega) (by omega))
      have HAD := Lib.hid (fun (W : World) (p3 : Bool) (A3 : Option Addr) (c3 : Nat) (l3 : List Nat) (p5 : Bool) (A5 : Option Addr) (c5 : Nat) (l5 : List Nat) (h : Cn W p3 A3 c3 l3 ((X : Int) * 1000000000000000000) (n + 2)) (h' : Cn W p5 A5 c5 l5 (v : Int) 2) => gaddL h.iv h'.iv (by omega) (by omega))
      have hval : (X : Int) * 1000000000000000000 + (v : Int) = ((Kt.valN (D.take (j + (k + 1))) : Nat) : Int) := by
        have e : D.take (j + (k + 1)) = D.take j ++ G := by rw [hG, List.take_add]
        rw [e, Kt.valN_app, hGl, ← hX, ← hv]
        rcases HJ.out with h0 | h18
        · subst h0
          have hX0 : X = 0 := by rw [hX, List.take_zero]; rfl
          rw [hX0]; omega
        · have hk17 : k = 17 := by omega
          rw [hk17]; omega
      have HVAL := Lib.hid hval
      have HX2 := Lib.hid hx2
      have HDS := Lib.hid hds
      clear hval hx1 hx2 hat hv hv2 hG hGl hGd hX hk hdL hd HJ
      clear hds
      go_wp2_with fail
      refine (HAT.out _).mono ?_
      rintro e w2 ⟨rfl, hb⟩
      replace t2 := t2.below hb t2.lt
      replace t3 := t3.below hb t3.lt
      replace t4 := t4.below hb t4.lt
      replace CX := CX.below hb
      replace CS := CS.below hb
      replace bel := bel.trans (hb.mono bel.size)
      clear hb
      have t3_0 := t3.c0
      have t3_1 := t3.c1
      have t4_0 := t4.c0
      have t4_1 := t4.c1
      go_wp2_with fail
      refine (HMU.out _ CX CS).mono ?_
      rintro e w3 ⟨p3, A3, c3, l3, rfl, C3, hb⟩
      clear t3_0 t3_1 t4_0 t4_1
      clear CX
      replace t2 := t2.below hb t2.lt
      replace t3 := t3.below hb t3.lt
      replace t4 := t4.below hb t4.lt
      replace CS := CS.below hb
      replace bel := bel.trans (hb.mono bel.size)
      clear hb
      go_wp2_with fail
      refine (HOF.out _).mono ?_
      rintro e w4 ⟨p5, A5, c5, l5, rfl, C5, hb⟩
      replace t2 := t2.below hb t2.lt
      replace t3 := t3.below hb t3.lt
      replace t4 := t4.below hb t4.lt
      replace CS := CS.below hb
      replace bel := bel.trans (hb.mono bel.size)
      replace C3 := C3.below hb
      clear hb
      go_wp2_with fail
      refine (HAD.out _ _ _ _ _ _ _ _ _ C3 C5).mono ?_
      rintro e w5 ⟨p6, A6, c6, l6, rfl, C6, hb⟩
      clear C3 C5
      replace t2 := t2.below hb t2.lt
      replace t3 := t3.below hb t3.lt
      replace t4 := t4.below hb t4.lt
      replace CS := CS.below hb
      replace bel := bel.trans (hb.mono bel.size)
      clear hb
      obtain rfl : p6 = false := by rw [C6.can.1, HVAL.out]; exact decide_eq_false (by omega)
      have t3_0 := t3.c0
      have t3_1 := t3.c1
      have f0 := t3.fr 0
      have f1 := t3.fr 1
      have C7 : Cn _ false A6 c6 l6 ((Kt.valN (D.take (j + (k + 1))) : Nat) : Int) n := cn_re (by rw [← HVAL.out]; exact C6) (by rw [Int.natAbs_natCast]; exact HPW.out _)
      have Kt2 := Lib.hid (t2.far2 (g := w.heap.size + 1) (by omega) (.bool false) (.slice A6 l6.length c6))
      have Kt4 := Lib.hid (t4.far2 (g := w.heap.size + 1) (by have := hg4; omega) (.bool false) (.slice A6 l6.length c6))
      have KT := Lib.hid (t3.put2 (.bool false) (.slice A6 l6.length c6))
      have KX := Lib.hid (C7.put2 t3 (.bool false) (.slice A6 l6.length c6))
      have KS := Lib.hid (CS.put2 t3 (.bool false) (.slice A6 l6.length c6))
      have KB := Lib.hid (below_set2 bel (b := w.heap.size + 1) (by omega) (.bool false) (.slice A6 l6.length c6))
      clear t2 t4 t3 C6 C7 CS bel
      go_wp2_with fail
      go_roundw
      case rel => exact ⟨j + (k + 1), A6, c6, l6, by omega, by rw [← HX2.out], Kt2.out, KT.out, Kt4.out, KX.out, KS.out, KB.out, Lib.hid (Or.inr (by rw [HK.out]; exact Nat.mul_mod_left _ _))⟩
      case measure => first | (simp [strL]; omega) | (show (d.extract (k + 1) d.size).size < d.size; rw [ByteArray.size_extract]; omega)
    · obtain rfl : j = n := by omega
      have q1 : d.toList.isEmpty = true := by rw [bs_toList, hdL, List.drop_eq_nil_of_le (by rw [HLEN.out]; exact Nat.le_refl _)]; rfl
      have HVV : Hid (D.take j = D) := Lib.hid (by rw [← HLEN.out]; exact List.take_length)
      clear hdL hds hd
      have a0 := t3.c0
      have a1 := t3.c1
      have b0 := t2.c0
      have b1 := t2.c1
      have f0 := t2.fr 0
      have f1 := t2.fr 1
      have KT := Lib.hid (t2.put2 (.bool false) (.slice A l.length c))
      have KX := Lib.hid (CX.put2 t2 (.bool false) (.slice A l.length c))
      have KB := Lib.hid (below_set2 bel (b := w.heap.size) (by omega) (.bool false) (.slice A l.length c))
      clear t2 t3 t4 CX CS bel
      go_wp2_with fail
      have r0 := KT.out.c0
      have r1 := KT.out.c1
      unfold set2 at r0 r1
      refine bodyPost_ret (v := .agg #[.bool false, .slice A l.length c]) (by simp [results, Tryz.results77, go_sem, r0, r1]) rfl ?_
      exact ⟨false, A, c, l, rfl, by have h := KX.out; rw [HVV.out] at h; exact h, KB.out⟩
end Go.Proofs.YtpfaddgcfacgdaaGreatDoor
/- Walks of package rational: Parse, errors. -/
namespace Go.Proofs.YtpfaddgcfacgdaaGreatDoor
open Go.RowKit
set_option linter.unusedVariables false

/-- the library's longest index, whatever it is -/
def Mx (w : World) : Prop := ∃ m, w.cell? ⟨0, 0, none⟩ = some (.int .i64 m)
theorem Mx.below_ {w w' : World} (h : Mx w) (hb : Below w.heap.size w w') : Mx w' := by
  obtain ⟨m, h1⟩ := h; exact ⟨m, (hb.cell (p := ⟨0, 0, none⟩) (World.block_lt_of_cell? w _ h1)).trans h1⟩

theorem GI.more_ {z : Int} {n k : Nat} {W W' : World} {e : Ending} (h : GI z n W e W') (hn : n ≤ k) : GI z k W e W' := by
  obtain ⟨p, A, c, l, he, hc, hb⟩ := h
  exact ⟨p, A, c, l, he, ⟨hc.iv.more hn, hc.can⟩, hb⟩

set_option maxRecDepth 100000 in
set_option maxHeartbeats 800000 in
theorem parse_long {s : ByteArray} (hs : 8192 < s.size) (w : World) :
    Calls Tryz.prog 44 #[.string s] w fun e w' => e = .returned (.tuple #[ratV false none 0 0 false none 0 0, .int .i64 5]) ∧ Below w.heap.size w w' := by
  unfold ratV
  have z0 : (8192 : Int) < (s.size : Int) := by omega
  clear hs
  go_enter Tryz.func44, Tryz.ntmps44
  have t2 := Four.new_ w (.bool false) (.slice none 0 0) (.bool false) (.slice none 0 0) 26
  have bel := al1 w (.cells #[.bool false, .slice none 0 0, .bool false, .slice none 0 0] 26)
  have d0 := t2.c0
  have f0 := t2.fr 0
  have d1 := t2.c1
  have f1 := t2.fr 1
  have d2 := t2.c2
  have f2 := t2.fr 2
  have d3 := t2.c3
  have f3 := t2.fr 3
  have BL := Lib.hid bel
  clear t2 bel
  go_wp2_with fail
  refine bodyPost_ret (v := .tuple #[.agg #[.bool false, .slice none 0 0, .bool false, .slice none 0 0], .int .i64 5]) (by simp [results, Tryz.results44, go_sem]) rfl ?_
  exact ⟨rfl, BL.out⟩
end Go.Proofs.YtpfaddgcfacgdaaGreatDoor
/- From a walk to a row: what the laws of rational read of the library's variables. -/
namespace Go.Proofs.YtpfaddgcfacgdaaGreatDoor
open Go.ChangeShapes Go.WideShapes Go.ChangeAt Go.RowKit
set_option linter.unusedVariables false

/-- the list of the row -/
abbrev laidL : List (String × DataW Unit) := [("math/bits.deBruijn32tab", Rows.laid_math_bits_deBruijn32tab), ("math/bits.deBruijn64tab", Rows.laid_math_bits_deBruijn64tab), ("internal/strconv.uint64pow10", Rows.laid_internal_strconv_uint64pow10), ("unicode/utf8.acceptRanges", Rows.laid_unicode_utf8_acceptRanges), ("strconv.ErrRange", Rows.laid_strconv_ErrRange), ("strconv.ErrSyntax", Rows.laid_strconv_ErrSyntax), ("unicode/utf8.first", Rows.laid_unicode_utf8_first)]
/-- MaxLen out of the world's shape -/
theorem mx_of_shape {W : World} (hsh : W.ShapedOpen Tryz.prog) : Mx W :=
  Go.Proofs.cell_of_shapedOpen_int (zero := #[.int .i64 0]) (t := 3) hsh (of_decide_eq_true (by kernel_rfl)) (by kernel_rfl) rfl (by kernel_rfl) (by kernel_rfl) Tryz.underlying3
/-- a start: the settled world, the listed variables as their initialisers lay them -/
noncomputable def laidWorldT (os : Os) : World := World.laidAll Tryz.prog os laidL
theorem laidL_met (os : Os) (args : Array Value) : laidMet Tryz.prog laidL ((laidWorldT os).forCall (fun _ _ => 0) ⟨#[], args, []⟩).memory := laidMet_laidAll args (by kernel_rfl) (by kernel_rfl)
theorem laidL_shape (os : Os) (args : Array Value) : ((laidWorldT os).forCall (fun _ _ => 0) ⟨#[], args, []⟩).variablesRefB Tryz.prog = true := by kernel_rfl
theorem laidL_rest (os : Os) (args : Array Value) : (((laidWorldT os).forCall (fun _ _ => 0) ⟨#[], args, []⟩).heap.toList.drop Tryz.prog.globals.size).take ((begin Tryz.prog (fun _ _ => 0) default).world.heap.size - Tryz.prog.globals.size) =
      (begin Tryz.prog (fun _ _ => 0) default).world.heap.toList.drop Tryz.prog.globals.size := by kernel_rfl
end Go.Proofs.YtpfaddgcfacgdaaGreatDoor
/- From a walk to a row: arguments that are fractions. -/
namespace Go.Proofs.YtpfaddgcfacgdaaGreatDoor
open Go.ChangeShapes Go.WideShapes Go.ChangeAt Go.RowKit
set_option linter.unusedVariables false
end Go.Proofs.YtpfaddgcfacgdaaGreatDoor
/- Walks of package rational: common. -/
namespace Go.Proofs.YtpfaddgcfacgdaaGreatDoor
open Go.RowKit
set_option linter.unusedVariables false

/-- two numerators over one denominator above 0 -/
def Cm (za zb : Rat) (n : Nat) (W : World) (e : Ending) (W' : World) : Prop :=
  ∃ p A c l q B d m r C f o x y u, e = .returned (.tuple #[.agg #[.bool p, .slice A l.length c], .agg #[.bool q, .slice B m.length d], .agg #[.bool r, .slice C o.length f]]) ∧ Cn W' p A c l x n ∧ Cn W' q B d m y n ∧ Cn W' r C f o u n ∧ 0 < u ∧ Rat.divInt x u = za ∧ Rat.divInt y u = zb ∧ Below W.heap.size W W'

theorem Cn.more_ {W : World} {p : Bool} {A : Option Addr} {c : Nat} {l : List Nat} {x : Int} {n k : Nat} (h : Cn W p A c l x n) (hn : n ≤ k) : Cn W p A c l x k := ⟨h.iv.more hn, h.can⟩

set_option maxRecDepth 100000 in
set_option maxHeartbeats 3000000 in
theorem gcommon {x y x' y' : Int} {n k : Nat} {p : Bool} {A : Option Addr} {c : Nat} {l : List Nat} {q : Bool} {B : Option Addr} {d : Nat} {m : List Nat} {p' : Bool} {A' : Option Addr} {c' : Nat} {l' : List Nat} {q' : Bool} {B' : Option Addr} {d' : Nat} {m' : List Nat} {w : World}
    (h1 : Iv w p A c l x n) (h2 : Iv w q B d m y n) (h3 : Iv w p' A' c' l' x' k) (h4 : Iv w q' B' d' m' y' k) (hn : n ≤ 49) (hn1 : 1 ≤ n) (hk : k ≤ 49) (hk1 : 1 ≤ k) :
    Calls Tryz.prog 64 #[ratV p A l.length c q B m.length d, ratV p' A' l'.length c' q' B' m'.length d'] w (Cm (Rat.divInt x y) (Rat.divInt x' y') (n + k) w) := by
  obtain ⟨za, hza⟩ : ∃ z, z = Rat.divInt x y := ⟨_, rfl⟩
  obtain ⟨zb, hzb⟩ : ∃ z, z = Rat.divInt x' y' := ⟨_, rfl⟩
  rw [← hza, ← hzb]
  have HR1 := Lib.hid (fun (W : World) (h1 : Iv W p A c l x n) (h2 : Iv W q B d m y n) => (by have h := gratio h1 h2 (by omega) hn1; rw [← hza] at h; exact h : Calls Tryz.prog 48 #[.agg #[.bool p, .slice A l.length c, .bool q, .slice B m.length d]] W (Ra za n W)))
  have HR2 := Lib.hid (fun (W : World) (h1 : Iv W p' A' c' l' x' k) (h2 : Iv W q' B' d' m' y' k) => (by have h := gratio h1 h2 (by omega) hk1; rw [← hzb] at h; exact h : Calls Tryz.prog 48 #[.agg #[.bool p', .slice A' l'.length c', .bool q', .slice B' m'.length d']] W (Ra zb k W)))
  have HN := Lib.hid hn
  have HK := Lib.hid hk
  clear hza hzb hn hn1 hk hk1
  unfold ratV
  go_enter Tryz.func64, Tryz.ntmps64
  go_wp2_with fail
  have t1 : Four (((((w.alloc (.cells #[.bool p, .slice A l.length c, .bool q, .slice B m.length d] 26)).alloc (.cells #[.bool p', .slice A' l'.length c', .bool q', .slice B' m'.length d'] 26)).alloc (.cells #[.bool false, .slice none 0 0] 24)).alloc (.cells #[.bool false, .slice none 0 0] 24)).alloc (.cells #[.bool false, .slice none 0 0] 24)) w.heap.size (.bool p) (.slice A l.length c) (.bool q) (.slice B m.length d) := ((((Four.new_ w (.bool p) (.slice A l.length c) (.bool q) (.slice B m.length d) 26).alloc _).alloc _).alloc _).alloc _
  have t2 : Four (((((w.alloc (.cells #[.bool p, .slice A l.length c, .bool q, .slice B m.length d] 26)).alloc (.cells #[.bool p', .slice A' l'.length c', .bool q', .slice B' m'.length d'] 26)).alloc (.cells #[.bool false, .slice none 0 0] 24)).alloc (.cells #[.bool false, .slice none 0 0] 24)).alloc (.cells #[.bool false, .slice none 0 0] 24)) (w.heap.size + 1) (.bool p') (.slice A' l'.length c') (.bool q') (.slice B' m'.length d') := by simpa only [World.size_alloc, Nat.add_assoc, Nat.reduceAdd] using (((Four.new_ (w.alloc (.cells #[.bool p, .slice A l.length c, .bool q, .slice B m.length d] 26)) (.bool p') (.slice A' l'.length c') (.bool q') (.slice B' m'.length d') 26).alloc _).alloc _).alloc _
  have t3 : Two (((((w.alloc (.cells #[.bool p, .slice A l.length c, .bool q, .slice B m.length d] 26)).alloc (.cells #[.bool p', .slice A' l'.length c', .bool q', .slice B' m'.length d'] 26)).alloc (.cells #[.bool false, .slice none 0 0] 24)).alloc (.cells #[.bool false, .slice none 0 0] 24)).alloc (.cells #[.bool false, .slice none 0 0] 24)) (w.heap.size + 2) (.bool false) (.slice none 0 0) := by simpa only [World.size_alloc, Nat.add_assoc, Nat.reduceAdd] using ((Two.new_ ((w.alloc (.cells #[.bool p, .slice A l.length c, .bool q, .slice B m.length d] 26)).alloc (.cells #[.bool p', .slice A' l'.length c', .bool q', .slice B' m'.length d'] 26)) (.bool false) (.slice none 0 0) 24).alloc _).alloc _
  have t4 : Two (((((w.alloc (.cells #[.bool p, .slice A l.length c, .bool q, .slice B m.length d] 26)).alloc (.cells #[.bool p', .slice A' l'.length c', .bool q', .slice B' m'.length d'] 26)).alloc (.cells #[.bool false, .slice none 0 0] 24)).alloc (.cells #[.bool false, .slice none 0 0] 24)).alloc (.cells #[.bool false, .slice none 0 0] 24)) (w.heap.size + 3) (.bool false) (.slice none 0 0) := by simpa only [World.size_alloc, Nat.add_assoc, Nat.reduceAdd] using (Two.new_ (((w.alloc (.cells #[.bool p, .slice A l.length c, .bool q, .slice B m.length d] 26)).alloc (.cells #[.bool p', .slice A' l'.length c', .bool q', .slice B' m'.length d'] 26)).alloc (.cells #[.bool false, .slice none 0 0] 24)) (.bool false) (.slice none 0 0) 24).alloc _
  have t5 : Two (((((w.alloc (.cells #[.bool p, .slice A l.length c, .bool q, .slice B m.length d] 26)).alloc (.cells #[.bool p', .slice A' l'.length c', .bool q', .slice B' m'.length d'] 26)).alloc (.cells #[.bool false, .slice none 0 0] 24)).alloc (.cells #[.bool false, .slice none 0 0] 24)).alloc (.cells #[.bool false, .slice none 0 0] 24)) (w.heap.size + 4) (.bool false) (.slice none 0 0) := by simpa only [World.size_alloc, Nat.add_assoc, Nat.reduceAdd] using Two.new_ ((((w.alloc (.cells #[.bool p, .slice A l.length c, .bool q, .slice B m.length d] 26)).alloc (.cells #[.bool p', .slice A' l'.length c', .bool q', .slice B' m'.length d'] 26)).alloc (.cells #[.bool false, .slice none 0 0] 24)).alloc (.cells #[.bool false, .slice none 0 0] 24)) (.bool false) (.slice none 0 0) 24
  have bel : Below w.heap.size w (((((w.alloc (.cells #[.bool p, .slice A l.length c, .bool q, .slice B m.length d] 26)).alloc (.cells #[.bool p', .slice A' l'.length c', .bool q', .slice B' m'.length d'] 26)).alloc (.cells #[.bool false, .slice none 0 0] 24)).alloc (.cells #[.bool false, .slice none 0 0] 24)).alloc (.cells #[.bool false, .slice none 0 0] 24)) := (((((Below.refl _ _).alloc (Nat.le_refl _) _).alloc (by simp only [World.size_alloc]; omega) _).alloc (by simp only [World.size_alloc]; omega) _).alloc (by simp only [World.size_alloc]; omega) _).alloc (by simp only [World.size_alloc]; omega) _
  generalize (((((w.alloc (.cells #[.bool p, .slice A l.length c, .bool q, .slice B m.length d] 26)).alloc (.cells #[.bool p', .slice A' l'.length c', .bool q', .slice B' m'.length d'] 26)).alloc (.cells #[.bool false, .slice none 0 0] 24)).alloc (.cells #[.bool false, .slice none 0 0] 24)).alloc (.cells #[.bool false, .slice none 0 0] 24)) = wx at t1 t2 t3 t4 t5 bel ⊢
  have X := h1.below bel
  have Y := h2.below bel
  have t1_0 := t1.c0
  have t1_1 := t1.c1
  have t1_2 := t1.c2
  have t1_3 := t1.c3
  go_wp2_with fail
  refine (HR1.out _ X Y).mono ?_
  rintro e w2 ⟨p1, A1, c1, l1, q1, B1, d1, m1, x1, y1, rfl, X1, Y1, h01, hz1, hb⟩
  clear t1_0 t1_1 t1_2 t1_3
  clear t1
  replace t2 := t2.below hb t2.lt
  replace t3 := t3.below hb t3.lt
  replace t4 := t4.below hb t4.lt
  replace t5 := t5.below hb t5.lt
  replace bel := bel.trans (hb.mono bel.size)
  clear hb
  have H01 := Lib.hid h01
  have HZ1 := Lib.hid hz1
  clear h01 hz1 X Y
  have t2' := (t2.alloc (.cells #[.bool p1, .slice A1 l1.length c1] 24)).alloc (.cells #[.bool q1, .slice B1 m1.length d1] 24)
  have e0 := t2'.c0
  have e1 := t2'.c1
  have e2 := t2'.c2
  have e3 := t2'.c3
  clear t2'
  go_wp2_with fail
  clear e0 e1 e2 e3
  have hg1 : w.heap.size + 4 < w2.heap.size := t5.lt
  have u1 : Two ((w2.alloc (.cells #[.bool p1, .slice A1 l1.length c1] 24)).alloc (.cells #[.bool q1, .slice B1 m1.length d1] 24)) w2.heap.size (.bool p1) (.slice A1 l1.length c1) := (Two.new_ w2 (.bool p1) (.slice A1 l1.length c1) 24).alloc _
  have u2 : Two ((w2.alloc (.cells #[.bool p1, .slice A1 l1.length c1] 24)).alloc (.cells #[.bool q1, .slice B1 m1.length d1] 24)) (w2.heap.size + 1) (.bool q1) (.slice B1 m1.length d1) := by simpa only [World.size_alloc, Nat.add_assoc, Nat.reduceAdd] using Two.new_ (w2.alloc (.cells #[.bool p1, .slice A1 l1.length c1] 24)) (.bool q1) (.slice B1 m1.length d1) 24
  have bn : Below w2.heap.size w2 ((w2.alloc (.cells #[.bool p1, .slice A1 l1.length c1] 24)).alloc (.cells #[.bool q1, .slice B1 m1.length d1] 24)) := ((Below.refl _ _).alloc (Nat.le_refl _) _).alloc (by simp only [World.size_alloc]; omega) _
  replace t2 := t2.below bn t2.lt
  replace t3 := t3.below bn t3.lt
  replace t4 := t4.below bn t4.lt
  replace t5 := t5.below bn t5.lt
  replace bel := bel.trans (bn.mono bel.size)
  replace X1 := X1.below bn
  replace Y1 := Y1.below bn
  clear bn
  generalize ((w2.alloc (.cells #[.bool p1, .slice A1 l1.length c1] 24)).alloc (.cells #[.bool q1, .slice B1 m1.length d1] 24)) = w3 at t2 t3 t4 t5 bel X1 Y1 u1 u2 ⊢
  generalize w2.heap.size = g at t2 t3 t4 t5 bel X1 Y1 u1 u2 hg1 ⊢
  have X := h3.below bel
  have Y := h4.below bel
  refine (HR2.out _ X Y).mono ?_
  rintro e w3 ⟨p2, A2, c2, l2, q2, B2, d2, m2, x2, y2, rfl, X2, Y2, h02, hz2, hb⟩
  clear t2
  replace t3 := t3.below hb t3.lt
  replace t4 := t4.below hb t4.lt
  replace t5 := t5.below hb t5.lt
  replace bel := bel.trans (hb.mono bel.size)
  replace X1 := X1.below hb
  replace Y1 := Y1.below hb
  replace u1 := u1.below hb u1.lt
  replace u2 := u2.below hb u2.lt
  clear hb
  have H02 := Lib.hid h02
  have HZ2 := Lib.hid hz2
  clear h02 hz2 X Y
  go_wp2_with fail
  have hg2 : w.heap.size + 4 < w3.heap.size := t5.lt
  have v1 : Two ((w3.alloc (.cells #[.bool p2, .slice A2 l2.length c2] 24)).alloc (.cells #[.bool q2, .slice B2 m2.length d2] 24)) w3.heap.size (.bool p2) (.slice A2 l2.length c2) := (Two.new_ w3 (.bool p2) (.slice A2 l2.length c2) 24).alloc _
  have v2 : Two ((w3.alloc (.cells #[.bool p2, .slice A2 l2.length c2] 24)).alloc (.cells #[.bool q2, .slice B2 m2.length d2] 24)) (w3.heap.size + 1) (.bool q2) (.slice B2 m2.length d2) := by simpa only [World.size_alloc, Nat.add_assoc, Nat.reduceAdd] using Two.new_ (w3.alloc (.cells #[.bool p2, .slice A2 l2.length c2] 24)) (.bool q2) (.slice B2 m2.length d2) 24
  have bn : Below w3.heap.size w3 ((w3.alloc (.cells #[.bool p2, .slice A2 l2.length c2] 24)).alloc (.cells #[.bool q2, .slice B2 m2.length d2] 24)) := ((Below.refl _ _).alloc (Nat.le_refl _) _).alloc (by simp only [World.size_alloc]; omega) _
  replace t3 := t3.below bn t3.lt
  replace t4 := t4.below bn t4.lt
  replace t5 := t5.below bn t5.lt
  replace bel := bel.trans (bn.mono bel.size)
  replace X1 := X1.below bn
  replace Y1 := Y1.below bn
  replace u1 := u1.below bn u1.lt
  replace u2 := u2.below bn u2.lt
  replace X2 := X2.below bn
  replace Y2 := Y2.below bn
  clear bn
  generalize ((w3.alloc (.cells #[.bool p2, .slice A2 l2.length c2] 24)).alloc (.cells #[.bool q2, .slice B2 m2.length d2] 24)) = w4 at t3 t4 t5 bel X1 Y1 u1 u2 X2 Y2 v1 v2 ⊢
  generalize w3.heap.size = g' at t3 t4 t5 bel X1 Y1 u1 u2 X2 Y2 v1 v2 hg2 ⊢
  replace t3 := t3.drew
  replace t4 := t4.drew
  replace t5 := t5.drew
  replace bel := bDrew1 bel
  replace X1 := X1.drew
  replace Y1 := Y1.drew
  replace u1 := u1.drew
  replace u2 := u2.drew
  replace X2 := X2.drew
  replace Y2 := Y2.drew
  replace v1 := v1.drew
  replace v2 := v2.drew
  have HM1 := Lib.hid (fun (W : World) (h : Iv W p1 A1 c1 l1 x1 n) (h' : Iv W q2 B2 d2 m2 y2 k) => gmul h h' (by have := HN.out; have := HK.out; omega) (by have := HN.out; have := HK.out; omega))
  have HM2 := Lib.hid (fun (W : World) (h : Iv W p2 A2 c2 l2 x2 k) (h' : Iv W q1 B1 d1 m1 y1 n) => gmul h h' (by have := HN.out; have := HK.out; omega) (by have := HN.out; have := HK.out; omega))
  have HM3 := Lib.hid (fun (W : World) (h : Iv W q1 B1 d1 m1 y1 n) (h' : Iv W q2 B2 d2 m2 y2 k) => gmul h h' (by have := HN.out; have := HK.out; omega) (by have := HN.out; have := HK.out; omega))
  go_region_held3 (fun w' => w'.cell? ⟨g, 0, none⟩ = some (.bool p1) ∧ w'.cell? ⟨g, 1, none⟩ = some (.slice A1 l1.length c1) ∧ w'.cell? ⟨g + 1, 0, none⟩ = some (.bool q1) ∧ w'.cell? ⟨g + 1, 1, none⟩ = some (.slice B1 m1.length d1) ∧ w'.cell? ⟨g', 0, none⟩ = some (.bool p2) ∧ w'.cell? ⟨g', 1, none⟩ = some (.slice A2 l2.length c2) ∧ w'.cell? ⟨g' + 1, 0, none⟩ = some (.bool q2) ∧ w'.cell? ⟨g' + 1, 1, none⟩ = some (.slice B2 m2.length d2))
    (first | with_reducible exact ⟨u1.c0, u1.c1, u2.c0, u2.c1, v1.c0, v1.c1, v2.c0, v2.c1⟩ | with_reducible exact ⟨K0_0.out.c0, K0_0.out.c1, K1_0.out.c0, K1_0.out.c1, K2_0.out.c0, K2_0.out.c1, K3_0.out.c0, K3_0.out.c1⟩ | with_reducible exact ⟨K0_1.out.c0, K0_1.out.c1, K1_1.out.c0, K1_1.out.c1, K2_1.out.c0, K2_1.out.c1, K3_1.out.c0, K3_1.out.c1⟩ | with_reducible exact ⟨K0_2.out.c0, K0_2.out.c1, K1_2.out.c0, K1_2.out.c1, K2_2.out.c0, K2_2.out.c1, K3_2.out.c0, K3_2.out.c1⟩)
    (first
      | (go_at_call 62; (with_reducible refine (HM1.out _ X1 Y2).mono ?_); rintro e wa ⟨p3, A3, c3, l3, rfl, E3, hb⟩; replace t3 := t3.below hb t3.lt; replace t4 := t4.below hb t4.lt; replace t5 := t5.below hb t5.lt; replace bel := bel.trans (hb.mono bel.size); replace u1 := u1.below hb u1.lt; replace u2 := u2.below hb u2.lt; replace v1 := v1.below hb v1.lt; replace v2 := v2.below hb v2.lt; replace X1 := X1.below hb; replace Y1 := Y1.below hb; replace X2 := X2.below hb; replace Y2 := Y2.below hb; clear hb)
      | (go_at_call 62; (with_reducible refine (HM2.out _ X2 Y1).mono ?_); rintro e wa ⟨q3, B3, d3, m3, rfl, E4, hb⟩; replace t3 := t3.below hb t3.lt; replace t4 := t4.below hb t4.lt; replace t5 := t5.below hb t5.lt; replace bel := bel.trans (hb.mono bel.size); replace u1 := u1.below hb u1.lt; replace u2 := u2.below hb u2.lt; replace v1 := v1.below hb v1.lt; replace v2 := v2.below hb v2.lt; replace X1 := X1.below hb; replace Y1 := Y1.below hb; replace X2 := X2.below hb; replace Y2 := Y2.below hb; replace E3 := E3.below hb; clear hb)
      | (go_at_call 62; (with_reducible refine (HM3.out _ Y1 Y2).mono ?_); rintro e wa ⟨r3, C3, f3, o3, rfl, E5, hb⟩; replace t3 := t3.below hb t3.lt; replace t4 := t4.below hb t4.lt; replace t5 := t5.below hb t5.lt; replace bel := bel.trans (hb.mono bel.size); replace u1 := u1.below hb u1.lt; replace u2 := u2.below hb u2.lt; replace v1 := v1.below hb v1.lt; replace v2 := v2.below hb v2.lt; replace E3 := E3.below hb; replace E4 := E4.below hb; clear hb
         have T4 : Two ((wa.setCell ⟨w.heap.size + 2, 0, none⟩ (.bool p3)).setCell ⟨w.heap.size + 2, 1, none⟩ (.slice A3 l3.length c3)) (w.heap.size + 3) (.bool false) (.slice none 0 0) := t4.far2 (by omega) _ _
         have T5 : Two ((((wa.setCell ⟨w.heap.size + 2, 0, none⟩ (.bool p3)).setCell ⟨w.heap.size + 2, 1, none⟩ (.slice A3 l3.length c3)).setCell ⟨w.heap.size + 3, 0, none⟩ (.bool q3)).setCell ⟨w.heap.size + 3, 1, none⟩ (.slice B3 m3.length d3)) (w.heap.size + 4) (.bool false) (.slice none 0 0) := (t5.far2 (g := w.heap.size + 2) (by omega) (.bool p3) (.slice A3 l3.length c3)).far2 (g := w.heap.size + 3) (by omega) (.bool q3) (.slice B3 m3.length d3)
         have t3_0 := t3.c0
         have t3f0 := t3.fr 0
         have t3_1 := t3.c1
         have t3f1 := t3.fr 1
         have T4_0 := T4.c0
         have T4f0 := T4.fr 0
         have T4_1 := T4.c1
         have T4f1 := T4.fr 1
         have T5_0 := T5.c0
         have T5f0 := T5.fr 0
         have T5_1 := T5.c1
         have T5f1 := T5.fr 1
         have K0_0 := Lib.hid (u1.far2 (g := w.heap.size + 2) (by omega) (.bool p3) (.slice A3 l3.length c3))
         have K1_0 := Lib.hid (u2.far2 (g := w.heap.size + 2) (by omega) (.bool p3) (.slice A3 l3.length c3))
         have K2_0 := Lib.hid (v1.far2 (g := w.heap.size + 2) (by omega) (.bool p3) (.slice A3 l3.length c3))
         have K3_0 := Lib.hid (v2.far2 (g := w.heap.size + 2) (by omega) (.bool p3) (.slice A3 l3.length c3))
         have K0_1 := Lib.hid (K0_0.out.far2 (g := w.heap.size + 3) (by omega) (.bool q3) (.slice B3 m3.length d3))
         have K1_1 := Lib.hid (K1_0.out.far2 (g := w.heap.size + 3) (by omega) (.bool q3) (.slice B3 m3.length d3))
         have K2_1 := Lib.hid (K2_0.out.far2 (g := w.heap.size + 3) (by omega) (.bool q3) (.slice B3 m3.length d3))
         have K3_1 := Lib.hid (K3_0.out.far2 (g := w.heap.size + 3) (by omega) (.bool q3) (.slice B3 m3.length d3))
         have K0_2 := Lib.hid (K0_1.out.far2 (g := w.heap.size + 4) (by omega) (.bool r3) (.slice C3 o3.length f3))
         have K1_2 := Lib.hid (K1_1.out.far2 (g := w.heap.size + 4) (by omega) (.bool r3) (.slice C3 o3.length f3))
         have K2_2 := Lib.hid (K2_1.out.far2 (g := w.heap.size + 4) (by omega) (.bool r3) (.slice C3 o3.length f3))
         have K3_2 := Lib.hid (K3_1.out.far2 (g := w.heap.size + 4) (by omega) (.bool r3) (.slice C3 o3.length f3))
         have R3 := Lib.hid (((t3.put2 (.bool p3) (.slice A3 l3.length c3)).far2 (g := w.heap.size + 3) (by omega) (.bool q3) (.slice B3 m3.length d3)).far2 (g := w.heap.size + 4) (by omega) (.bool r3) (.slice C3 o3.length f3))
         have R4 := Lib.hid ((T4.put2 (.bool q3) (.slice B3 m3.length d3)).far2 (g := w.heap.size + 4) (by omega) (.bool r3) (.slice C3 o3.length f3))
         have R5 := Lib.hid (T5.put2 (.bool r3) (.slice C3 o3.length f3))
         have F3 := Lib.hid (((E3.put2 t3 (.bool p3) (.slice A3 l3.length c3)).put2 T4 (.bool q3) (.slice B3 m3.length d3)).put2 T5 (.bool r3) (.slice C3 o3.length f3))
         have F4 := Lib.hid (((E4.put2 t3 (.bool p3) (.slice A3 l3.length c3)).put2 T4 (.bool q3) (.slice B3 m3.length d3)).put2 T5 (.bool r3) (.slice C3 o3.length f3))
         have F5 := Lib.hid (((E5.put2 t3 (.bool p3) (.slice A3 l3.length c3)).put2 T4 (.bool q3) (.slice B3 m3.length d3)).put2 T5 (.bool r3) (.slice C3 o3.length f3))
         have BL := Lib.hid (below_set2 (below_set2 (below_set2 bel (b := w.heap.size + 2) (by omega) (.bool p3) (.slice A3 l3.length c3)) (b := w.heap.size + 3) (by omega) (.bool q3) (.slice B3 m3.length d3)) (b := w.heap.size + 4) (by omega) (.bool r3) (.slice C3 o3.length f3))
         clear T4 T5))
  go_wp2_with fail
  have r0 := R3.out.c0
  have r1 := R3.out.c1
  have r2 := R4.out.c0
  have r3' := R4.out.c1
  have r4 := R5.out.c0
  have r5 := R5.out.c1
  unfold set2 at r0 r1 r2 r3' r4 r5
  refine bodyPost_ret (v := .tuple #[.agg #[.bool p3, .slice A3 l3.length c3], .agg #[.bool q3, .slice B3 m3.length d3], .agg #[.bool r3, .slice C3 o3.length f3]]) (by simp [results, Tryz.results64, go_sem, r0, r1, r2, r3', r4, r5]) rfl ?_
  exact ⟨p3, A3, c3, l3, q3, B3, d3, m3, r3, C3, f3, o3, _, _, _, rfl, F3.out, F4.out.more_ (by omega), F5.out, Int.mul_pos H01.out H02.out, (rq_com1 H02.out).trans HZ1.out, (rq_com2 H01.out).trans HZ2.out, BL.out⟩
end Go.Proofs.YtpfaddgcfacgdaaGreatDoor
/- Walks of package rational: Add, Sub. -/
namespace Go.Proofs.YtpfaddgcfacgdaaGreatDoor
open Go.RowKit
set_option linter.unusedVariables false

set_option maxRecDepth 100000 in
set_option maxHeartbeats 3000000 in
theorem graddr {x y x' y' : Int} {n k : Nat} {p : Bool} {A : Option Addr} {c : Nat} {l : List Nat} {q : Bool} {B : Option Addr} {d : Nat} {m : List Nat} {p' : Bool} {A' : Option Addr} {c' : Nat} {l' : List Nat} {q' : Bool} {B' : Option Addr} {d' : Nat} {m' : List Nat} {w : World}
    (h1 : Iv w p A c l x n) (h2 : Iv w q B d m y n) (h3 : Iv w p' A' c' l' x' k) (h4 : Iv w q' B' d' m' y' k) (hn : n ≤ 49) (hn1 : 1 ≤ n) (hk : k ≤ 49) (hk1 : 1 ≤ k) :
    Calls Tryz.prog 23 #[ratV p A l.length c q B m.length d, ratV p' A' l'.length c' q' B' m'.length d'] w (GR (Rat.divInt x y + Rat.divInt x' y') (n + k + 1) w) := by
  obtain ⟨za, hza⟩ : ∃ z, z = Rat.divInt x y := ⟨_, rfl⟩
  obtain ⟨zb, hzb⟩ : ∃ z, z = Rat.divInt x' y' := ⟨_, rfl⟩
  rw [← hza, ← hzb]
  have HCM := Lib.hid (fun (W : World) (h1 : Iv W p A c l x n) (h2 : Iv W q B d m y n) (h3 : Iv W p' A' c' l' x' k) (h4 : Iv W q' B' d' m' y' k) => (by have h := gcommon h1 h2 h3 h4 hn hn1 hk hk1; rw [← hza, ← hzb] at h; exact h : Calls Tryz.prog 64 #[.agg #[.bool p, .slice A l.length c, .bool q, .slice B m.length d], .agg #[.bool p', .slice A' l'.length c', .bool q', .slice B' m'.length d']] W (Cm za zb (n + k) W)))
  obtain ⟨z, hz⟩ : ∃ z, z = za + zb := ⟨_, rfl⟩
  rw [← hz]
  have HZ := Lib.hid hz
  have HN := Lib.hid hn
  have HK := Lib.hid hk
  clear hza hzb hz hn hn1 hk hk1
  unfold ratV
  go_enter Tryz.func23, Tryz.ntmps23
  go_wp2_with fail
  have t1 : Four (((w.alloc (.cells #[.bool p, .slice A l.length c, .bool q, .slice B m.length d] 26)).alloc (.cells #[.bool p', .slice A' l'.length c', .bool q', .slice B' m'.length d'] 26)).alloc (.cells #[.bool false, .slice none 0 0, .bool false, .slice none 0 0] 26)) w.heap.size (.bool p) (.slice A l.length c) (.bool q) (.slice B m.length d) := ((Four.new_ w (.bool p) (.slice A l.length c) (.bool q) (.slice B m.length d) 26).alloc _).alloc _
  have t2 : Four (((w.alloc (.cells #[.bool p, .slice A l.length c, .bool q, .slice B m.length d] 26)).alloc (.cells #[.bool p', .slice A' l'.length c', .bool q', .slice B' m'.length d'] 26)).alloc (.cells #[.bool false, .slice none 0 0, .bool false, .slice none 0 0] 26)) (w.heap.size + 1) (.bool p') (.slice A' l'.length c') (.bool q') (.slice B' m'.length d') := by simpa only [World.size_alloc, Nat.add_assoc, Nat.reduceAdd] using (Four.new_ (w.alloc (.cells #[.bool p, .slice A l.length c, .bool q, .slice B m.length d] 26)) (.bool p') (.slice A' l'.length c') (.bool q') (.slice B' m'.length d') 26).alloc _
  have t3 : Four (((w.alloc (.cells #[.bool p, .slice A l.length c, .bool q, .slice B m.length d] 26)).alloc (.cells #[.bool p', .slice A' l'.length c', .bool q', .slice B' m'.length d'] 26)).alloc (.cells #[.bool false, .slice none 0 0, .bool false, .slice none 0 0] 26)) (w.heap.size + 2) (.bool false) (.slice none 0 0) (.bool false) (.slice none 0 0) := by simpa only [World.size_alloc, Nat.add_assoc, Nat.reduceAdd] using Four.new_ ((w.alloc (.cells #[.bool p, .slice A l.length c, .bool q, .slice B m.length d] 26)).alloc (.cells #[.bool p', .slice A' l'.length c', .bool q', .slice B' m'.length d'] 26)) (.bool false) (.slice none 0 0) (.bool false) (.slice none 0 0) 26
  have bel : Below w.heap.size w (((w.alloc (.cells #[.bool p, .slice A l.length c, .bool q, .slice B m.length d] 26)).alloc (.cells #[.bool p', .slice A' l'.length c', .bool q', .slice B' m'.length d'] 26)).alloc (.cells #[.bool false, .slice none 0 0, .bool false, .slice none 0 0] 26)) := (((Below.refl _ _).alloc (Nat.le_refl _) _).alloc (by simp only [World.size_alloc]; omega) _).alloc (by simp only [World.size_alloc]; omega) _
  generalize (((w.alloc (.cells #[.bool p, .slice A l.length c, .bool q, .slice B m.length d] 26)).alloc (.cells #[.bool p', .slice A' l'.length c', .bool q', .slice B' m'.length d'] 26)).alloc (.cells #[.bool false, .slice none 0 0, .bool false, .slice none 0 0] 26)) = wx at t1 t2 t3 bel ⊢
  have X := h1.below bel
  have Y := h2.below bel
  have X' := h3.below bel
  have Y' := h4.below bel
  have t1_0 := t1.c0
  have t1_1 := t1.c1
  have t1_2 := t1.c2
  have t1_3 := t1.c3
  have t2_0 := t2.c0
  have t2_1 := t2.c1
  have t2_2 := t2.c2
  have t2_3 := t2.c3
  go_wp2_with fail
  refine (HCM.out _ X Y X' Y').mono ?_
  rintro e w2 ⟨p1, A1, c1, l1, q1, B1, d1, m1, r1, C1, f1, o1, a, b, den, rfl, E1, E2, E3, h0, ha, hb0, hb⟩
  clear t1_0 t1_1 t1_2 t1_3 t2_0 t2_1 t2_2 t2_3
  clear t1 t2
  replace t3 := t3.below hb t3.lt
  replace bel := bel.trans (hb.mono bel.size)
  clear hb
  clear X Y X' Y'
  have HAD := Lib.hid (fun (W : World) (h : Cn W p1 A1 c1 l1 a (n + k)) (h' : Cn W q1 B1 d1 m1 b (n + k)) => (by have h := gadd h.iv h'.iv (by have := HN.out; have := HK.out; omega) (by have := HN.out; have := HK.out; omega); rw [Nat.max_self] at h; exact h : Calls Tryz.prog 65 #[.agg #[.bool p1, .slice A1 l1.length c1], .agg #[.bool q1, .slice B1 m1.length d1]] W (GI (a + b) (n + k + 1) W)))
  have HRD := Lib.hid (fun (W : World) (p3 : Bool) (A3 : Option Addr) (c3 : Nat) (l3 : List Nat) (h : Cn W p3 A3 c3 l3 (a + b) (n + k + 1)) (h' : Cn W r1 C1 f1 o1 den (n + k)) => (by have h := greduced h.iv (h'.iv.more (Nat.le_succ _)) h0 (by have := HN.out; have := HK.out; omega); rw [rq_addS h0, ha, hb0, ← HZ.out] at h; exact h : Calls Tryz.prog 47 #[.agg #[.bool p3, .slice A3 l3.length c3], .agg #[.bool r1, .slice C1 o1.length f1]] W (GR z (n + k + 1) W)))
  clear h0 ha hb0
  go_wp2_with fail
  have hg1 : w.heap.size + 2 < w2.heap.size := t3.lt
  have u1 : Two (((w2.alloc (.cells #[.bool p1, .slice A1 l1.length c1] 24)).alloc (.cells #[.bool q1, .slice B1 m1.length d1] 24)).alloc (.cells #[.bool r1, .slice C1 o1.length f1] 24)) w2.heap.size (.bool p1) (.slice A1 l1.length c1) := ((Two.new_ w2 (.bool p1) (.slice A1 l1.length c1) 24).alloc _).alloc _
  have u2 : Two (((w2.alloc (.cells #[.bool p1, .slice A1 l1.length c1] 24)).alloc (.cells #[.bool q1, .slice B1 m1.length d1] 24)).alloc (.cells #[.bool r1, .slice C1 o1.length f1] 24)) (w2.heap.size + 1) (.bool q1) (.slice B1 m1.length d1) := by simpa only [World.size_alloc, Nat.add_assoc, Nat.reduceAdd] using (Two.new_ (w2.alloc (.cells #[.bool p1, .slice A1 l1.length c1] 24)) (.bool q1) (.slice B1 m1.length d1) 24).alloc _
  have u3 : Two (((w2.alloc (.cells #[.bool p1, .slice A1 l1.length c1] 24)).alloc (.cells #[.bool q1, .slice B1 m1.length d1] 24)).alloc (.cells #[.bool r1, .slice C1 o1.length f1] 24)) (w2.heap.size + 2) (.bool r1) (.slice C1 o1.length f1) := by simpa only [World.size_alloc, Nat.add_assoc, Nat.reduceAdd] using Two.new_ ((w2.alloc (.cells #[.bool p1, .slice A1 l1.length c1] 24)).alloc (.cells #[.bool q1, .slice B1 m1.length d1] 24)) (.bool r1) (.slice C1 o1.length f1) 24
  have bn : Below w2.heap.size w2 (((w2.alloc (.cells #[.bool p1, .slice A1 l1.length c1] 24)).alloc (.cells #[.bool q1, .slice B1 m1.length d1] 24)).alloc (.cells #[.bool r1, .slice C1 o1.length f1] 24)) := (((Below.refl _ _).alloc (Nat.le_refl _) _).alloc (by simp only [World.size_alloc]; omega) _).alloc (by simp only [World.size_alloc]; omega) _
  replace t3 := t3.below bn t3.lt
  replace bel := bel.trans (bn.mono bel.size)
  replace E1 := E1.below bn
  replace E2 := E2.below bn
  replace E3 := E3.below bn
  clear bn
  generalize (((w2.alloc (.cells #[.bool p1, .slice A1 l1.length c1] 24)).alloc (.cells #[.bool q1, .slice B1 m1.length d1] 24)).alloc (.cells #[.bool r1, .slice C1 o1.length f1] 24)) = w3 at t3 bel E1 E2 E3 u1 u2 u3 ⊢
  generalize w2.heap.size = g at t3 bel E1 E2 E3 u1 u2 u3 hg1 ⊢
  replace t3 := t3.drew
  replace bel := bDrew1 bel
  replace E1 := E1.drew
  replace E2 := E2.drew
  replace E3 := E3.drew
  replace u1 := u1.drew
  replace u2 := u2.drew
  replace u3 := u3.drew
  go_region_held3 (fun w' => w'.cell? ⟨g, 0, none⟩ = some (.bool p1) ∧ w'.cell? ⟨g, 1, none⟩ = some (.slice A1 l1.length c1) ∧ w'.cell? ⟨g + 1, 0, none⟩ = some (.bool q1) ∧ w'.cell? ⟨g + 1, 1, none⟩ = some (.slice B1 m1.length d1) ∧ w'.cell? ⟨g + 2, 0, none⟩ = some (.bool r1) ∧ w'.cell? ⟨g + 2, 1, none⟩ = some (.slice C1 o1.length f1))
    (first | with_reducible exact ⟨u1.c0, u1.c1, u2.c0, u2.c1, u3.c0, u3.c1⟩ | exact ⟨K0.out.c0, K0.out.c1, K1.out.c0, K1.out.c1, K2.out.c0, K2.out.c1⟩)
    (first
      | (go_at_call 65; (with_reducible refine (HAD.out _ E1 E2).mono ?_); rintro e wa ⟨p3, A3, c3, l3, rfl, E4, hb⟩; replace t3 := t3.below hb t3.lt; replace bel := bel.trans (hb.mono bel.size); replace u1 := u1.below hb u1.lt; replace u2 := u2.below hb u2.lt; replace u3 := u3.below hb u3.lt; replace E3 := E3.below hb; clear hb)
      | (go_at_call 47; (with_reducible refine (HRD.out _ _ _ _ _ E4 E3).mono ?_); rintro e wa ⟨A4, c4, l4, A5, c5, l5, rfl, CC, hb⟩; replace t3 := t3.below hb t3.lt; replace bel := bel.trans (hb.mono bel.size); replace u1 := u1.below hb u1.lt; replace u2 := u2.below hb u2.lt; replace u3 := u3.below hb u3.lt; clear hb
         have d0 := t3.c0
         have f0 := t3.fr 0
         have d1 := t3.c1
         have f1 := t3.fr 1
         have d2 := t3.c2
         have f2 := t3.fr 2
         have d3 := t3.c3
         have f3 := t3.fr 3
         have K0 := Lib.hid (u1.far4 (g := w.heap.size + 2) (by omega) (.bool (decide (z.num < 0))) (.slice A4 l4.length c4) (.bool false) (.slice A5 l5.length c5))
         have K1 := Lib.hid (u2.far4 (g := w.heap.size + 2) (by omega) (.bool (decide (z.num < 0))) (.slice A4 l4.length c4) (.bool false) (.slice A5 l5.length c5))
         have K2 := Lib.hid (u3.far4 (g := w.heap.size + 2) (by omega) (.bool (decide (z.num < 0))) (.slice A4 l4.length c4) (.bool false) (.slice A5 l5.length c5))
         have R := Lib.hid (t3.put (.bool (decide (z.num < 0))) (.slice A4 l4.length c4) (.bool false) (.slice A5 l5.length c5))
         have CR := Lib.hid (CC.put4 t3 (.bool (decide (z.num < 0))) (.slice A4 l4.length c4) (.bool false) (.slice A5 l5.length c5))
         have BL := Lib.hid (below_set4 bel (b := w.heap.size + 2) (by omega) (.bool (decide (z.num < 0))) (.slice A4 l4.length c4) (.bool false) (.slice A5 l5.length c5))))
  go_wp2_with fail
  have r0 := R.out.c0
  have r1 := R.out.c1
  have r2 := R.out.c2
  have r3 := R.out.c3
  unfold set4 at r0 r1 r2 r3
  refine bodyPost_ret (v := .agg #[.bool (decide (z.num < 0)), .slice A4 l4.length c4, .bool false, .slice A5 l5.length c5]) (by simp [results, Tryz.results23, go_sem, r0, r1, r2, r3]) rfl ?_
  exact ⟨A4, c4, l4, A5, c5, l5, rfl, CR.out, BL.out⟩

set_option maxRecDepth 100000 in
set_option maxHeartbeats 3000000 in
theorem grsubr {x y x' y' : Int} {n k : Nat} {p : Bool} {A : Option Addr} {c : Nat} {l : List Nat} {q : Bool} {B : Option Addr} {d : Nat} {m : List Nat} {p' : Bool} {A' : Option Addr} {c' : Nat} {l' : List Nat} {q' : Bool} {B' : Option Addr} {d' : Nat} {m' : List Nat} {w : World}
    (h1 : Iv w p A c l x n) (h2 : Iv w q B d m y n) (h3 : Iv w p' A' c' l' x' k) (h4 : Iv w q' B' d' m' y' k) (hn : n ≤ 49) (hn1 : 1 ≤ n) (hk : k ≤ 49) (hk1 : 1 ≤ k) :
    Calls Tryz.prog 25 #[ratV p A l.length c q B m.length d, ratV p' A' l'.length c' q' B' m'.length d'] w (GR (Rat.divInt x y - Rat.divInt x' y') (n + k + 1) w) := by
  obtain ⟨za, hza⟩ : ∃ z, z = Rat.divInt x y := ⟨_, rfl⟩
  obtain ⟨zb, hzb⟩ : ∃ z, z = Rat.divInt x' y' := ⟨_, rfl⟩
  rw [← hza, ← hzb]
  have HCM := Lib.hid (fun (W : World) (h1 : Iv W p A c l x n) (h2 : Iv W q B d m y n) (h3 : Iv W p' A' c' l' x' k) (h4 : Iv W q' B' d' m' y' k) => (by have h := gcommon h1 h2 h3 h4 hn hn1 hk hk1; rw [← hza, ← hzb] at h; exact h : Calls Tryz.prog 64 #[.agg #[.bool p, .slice A l.length c, .bool q, .slice B m.length d], .agg #[.bool p', .slice A' l'.length c', .bool q', .slice B' m'.length d']] W (Cm za zb (n + k) W)))
  obtain ⟨z, hz⟩ : ∃ z, z = za - zb := ⟨_, rfl⟩
  rw [← hz]
  have HZ := Lib.hid hz
  have HN := Lib.hid hn
  have HK := Lib.hid hk
  clear hza hzb hz hn hn1 hk hk1
  unfold ratV
  go_enter Tryz.func25, Tryz.ntmps25
  go_wp2_with fail
  have t1 : Four (((w.alloc (.cells #[.bool p, .slice A l.length c, .bool q, .slice B m.length d] 26)).alloc (.cells #[.bool p', .slice A' l'.length c', .bool q', .slice B' m'.length d'] 26)).alloc (.cells #[.bool false, .slice none 0 0, .bool false, .slice none 0 0] 26)) w.heap.size (.bool p) (.slice A l.length c) (.bool q) (.slice B m.length d) := ((Four.new_ w (.bool p) (.slice A l.length c) (.bool q) (.slice B m.length d) 26).alloc _).alloc _
  have t2 : Four (((w.alloc (.cells #[.bool p, .slice A l.length c, .bool q, .slice B m.length d] 26)).alloc (.cells #[.bool p', .slice A' l'.length c', .bool q', .slice B' m'.length d'] 26)).alloc (.cells #[.bool false, .slice none 0 0, .bool false, .slice none 0 0] 26)) (w.heap.size + 1) (.bool p') (.slice A' l'.length c') (.bool q') (.slice B' m'.length d') := by simpa only [World.size_alloc, Nat.add_assoc, Nat.reduceAdd] using (Four.new_ (w.alloc (.cells #[.bool p, .slice A l.length c, .bool q, .slice B m.length d] 26)) (.bool p') (.slice A' l'.length c') (.bool q') (.slice B' m'.length d') 26).alloc _
  have t3 : Four (((w.alloc (.cells #[.bool p, .slice A l.length c, .bool q, .slice B m.length d] 26)).alloc (.cells #[.bool p', .slice A' l'.length c', .bool q', .slice B' m'.length d'] 26)).alloc (.cells #[.bool false, .slice none 0 0, .bool false, .slice none 0 0] 26)) (w.heap.size + 2) (.bool false) (.slice none 0 0) (.bool false) (.slice none 0 0) := by simpa only [World.size_alloc, Nat.add_assoc, Nat.reduceAdd] using Four.new_ ((w.alloc (.cells #[.bool p, .slice A l.length c, .bool q, .slice B m.length d] 26)).alloc (.cells #[.bool p', .slice A' l'.length c', .bool q', .slice B' m'.length d'] 26)) (.bool false) (.slice none 0 0) (.bool false) (.slice none 0 0) 26
  have bel : Below w.heap.size w (((w.alloc (.cells #[.bool p, .slice A l.length c, .bool q, .slice B m.length d] 26)).alloc (.cells #[.bool p', .slice A' l'.length c', .bool q', .slice B' m'.length d'] 26)).alloc (.cells #[.bool false, .slice none 0 0, .bool false, .slice none 0 0] 26)) := (((Below.refl _ _).alloc (Nat.le_refl _) _).alloc (by simp only [World.size_alloc]; omega) _).alloc (by simp only [World.size_alloc]; omega) _
  generalize (((w.alloc (.cells #[.bool p, .slice A l.length c, .bool q, .slice B m.length d] 26)).alloc (.cells #[.bool p', .slice A' l'.length c', .bool q', .slice B' m'.length d'] 26)).alloc (.cells #[.bool false, .slice none 0 0, .bool false, .slice none 0 0] 26)) = wx at t1 t2 t3 bel ⊢
  have X := h1.below bel
  have Y := h2.below bel
  have X' := h3.below bel
  have Y' := h4.below bel
  have t1_0 := t1.c0
  have t1_1 := t1.c1
  have t1_2 := t1.c2
  have t1_3 := t1.c3
  have t2_0 := t2.c0
  have t2_1 := t2.c1
  have t2_2 := t2.c2
  have t2_3 := t2.c3
  go_wp2_with fail
  refine (HCM.out _ X Y X' Y').mono ?_
  rintro e w2 ⟨p1, A1, c1, l1, q1, B1, d1, m1, r1, C1, f1, o1, a, b, den, rfl, E1, E2, E3, h0, ha, hb0, hb⟩
  clear t1_0 t1_1 t1_2 t1_3 t2_0 t2_1 t2_2 t2_3
  clear t1 t2
  replace t3 := t3.below hb t3.lt
  replace bel := bel.trans (hb.mono bel.size)
  clear hb
  clear X Y X' Y'
  have HAD := Lib.hid (fun (W : World) (h : Cn W p1 A1 c1 l1 a (n + k)) (h' : Cn W q1 B1 d1 m1 b (n + k)) => (by have h := gsub h.iv h'.iv (by have := HN.out; have := HK.out; omega) (by have := HN.out; have := HK.out; omega); rw [Nat.max_self] at h; exact h : Calls Tryz.prog 67 #[.agg #[.bool p1, .slice A1 l1.length c1], .agg #[.bool q1, .slice B1 m1.length d1]] W (GI (a - b) (n + k + 1) W)))
  have HRD := Lib.hid (fun (W : World) (p3 : Bool) (A3 : Option Addr) (c3 : Nat) (l3 : List Nat) (h : Cn W p3 A3 c3 l3 (a - b) (n + k + 1)) (h' : Cn W r1 C1 f1 o1 den (n + k)) => (by have h := greduced h.iv (h'.iv.more (Nat.le_succ _)) h0 (by have := HN.out; have := HK.out; omega); rw [rq_subS h0, ha, hb0, ← HZ.out] at h; exact h : Calls Tryz.prog 47 #[.agg #[.bool p3, .slice A3 l3.length c3], .agg #[.bool r1, .slice C1 o1.length f1]] W (GR z (n + k + 1) W)))
  clear h0 ha hb0
  go_wp2_with fail
  have hg1 : w.heap.size + 2 < w2.heap.size := t3.lt
  have u1 : Two (((w2.alloc (.cells #[.bool p1, .slice A1 l1.length c1] 24)).alloc (.cells #[.bool q1, .slice B1 m1.length d1] 24)).alloc (.cells #[.bool r1, .slice C1 o1.length f1] 24)) w2.heap.size (.bool p1) (.slice A1 l1.length c1) := ((Two.new_ w2 (.bool p1) (.slice A1 l1.length c1) 24).alloc _).alloc _
  have u2 : Two (((w2.alloc (.cells #[.bool p1, .slice A1 l1.length c1] 24)).alloc (.cells #[.bool q1, .slice B1 m1.length d1] 24)).alloc (.cells #[.bool r1, .slice C1 o1.length f1] 24)) (w2.heap.size + 1) (.bool q1) (.slice B1 m1.length d1) := by simpa only [World.size_alloc, Nat.add_assoc, Nat.reduceAdd] using (Two.new_ (w2.alloc (.cells #[.bool p1, .slice A1 l1.length c1] 24)) (.bool q1) (.slice B1 m1.length d1) 24).alloc _
  have u3 : Two (((w2.alloc (.cells #[.bool p1, .slice A1 l1.length c1] 24)).alloc (.cells #[.bool q1, .slice B1 m1.length d1] 24)).alloc (.cells #[.bool r1, .slice C1 o1.length f1] 24)) (w2.heap.size + 2) (.bool r1) (.slice C1 o1.length f1) := by simpa only [World.size_alloc, Nat.add_assoc, Nat.reduceAdd] using Two.new_ ((w2.alloc (.cells #[.bool p1, .slice A1 l1.length c1] 24)).alloc (.cells #[.bool q1, .slice B1 m1.length d1] 24)) (.bool r1) (.slice C1 o1.length f1) 24
  have bn : Below w2.heap.size w2 (((w2.alloc (.cells #[.bool p1, .slice A1 l1.length c1] 24)).alloc (.cells #[.bool q1, .slice B1 m1.length d1] 24)).alloc (.cells #[.bool r1, .slice C1 o1.length f1] 24)) := (((Below.refl _ _).alloc (Nat.le_refl _) _).alloc (by simp only [World.size_alloc]; omega) _).alloc (by simp only [World.size_alloc]; omega) _
  replace t3 := t3.below bn t3.lt
  replace bel := bel.trans (bn.mono bel.size)
  replace E1 := E1.below bn
  replace E2 := E2.below bn
  replace E3 := E3.below bn
  clear bn
  generalize (((w2.alloc (.cells #[.bool p1, .slice A1 l1.length c1] 24)).alloc (.cells #[.bool q1, .slice B1 m1.length d1] 24)).alloc (.cells #[.bool r1, .slice C1 o1.length f1] 24)) = w3 at t3 bel E1 E2 E3 u1 u2 u3 ⊢
  generalize w2.heap.size = g at t3 bel E1 E2 E3 u1 u2 u3 hg1 ⊢
  replace t3 := t3.drew
  replace bel := bDrew1 bel
  replace E1 := E1.drew
  replace E2 := E2.drew
  replace E3 := E3.drew
  replace u1 := u1.drew
  replace u2 := u2.drew
  replace u3 := u3.drew
  go_region_held3 (fun w' => w'.cell? ⟨g, 0, none⟩ = some (.bool p1) ∧ w'.cell? ⟨g, 1, none⟩ = some (.slice A1 l1.length c1) ∧ w'.cell? ⟨g + 1, 0, none⟩ = some (.bool q1) ∧ w'.cell? ⟨g + 1, 1, none⟩ = some (.slice B1 m1.length d1) ∧ w'.cell? ⟨g + 2, 0, none⟩ = some (.bool r1) ∧ w'.cell? ⟨g + 2, 1, none⟩ = some (.slice C1 o1.length f1))
    (first | with_reducible exact ⟨u1.c0, u1.c1, u2.c0, u2.c1, u3.c0, u3.c1⟩ | exact ⟨K0.out.c0, K0.out.c1, K1.out.c0, K1.out.c1, K2.out.c0, K2.out.c1⟩)
    (first
      | (go_at_call 67; (with_reducible refine (HAD.out _ E1 E2).mono ?_); rintro e wa ⟨p3, A3, c3, l3, rfl, E4, hb⟩; replace t3 := t3.below hb t3.lt; replace bel := bel.trans (hb.mono bel.size); replace u1 := u1.below hb u1.lt; replace u2 := u2.below hb u2.lt; replace u3 := u3.below hb u3.lt; replace E3 := E3.below hb; clear hb)
      | (go_at_call 47; (with_reducible refine (HRD.out _ _ _ _ _ E4 E3).mono ?_); rintro e wa ⟨A4, c4, l4, A5, c5, l5, rfl, CC, hb⟩; replace t3 := t3.below hb t3.lt; replace bel := bel.trans (hb.mono bel.size); replace u1 := u1.below hb u1.lt; replace u2 := u2.below hb u2.lt; replace u3 := u3.below hb u3.lt; clear hb
         have d0 := t3.c0
         have f0 := t3.fr 0
         have d1 := t3.c1
         have f1 := t3.fr 1
         have d2 := t3.c2
         have f2 := t3.fr 2
         have d3 := t3.c3
         have f3 := t3.fr 3
         have K0 := Lib.hid (u1.far4 (g := w.heap.size + 2) (by omega) (.bool (decide (z.num < 0))) (.slice A4 l4.length c4) (.bool false) (.slice A5 l5.length c5))
         have K1 := Lib.hid (u2.far4 (g := w.heap.size + 2) (by omega) (.bool (decide (z.num < 0))) (.slice A4 l4.length c4) (.bool false) (.slice A5 l5.length c5))
         have K2 := Lib.hid (u3.far4 (g := w.heap.size + 2) (by omega) (.bool (decide (z.num < 0))) (.slice A4 l4.length c4) (.bool false) (.slice A5 l5.length c5))
         have R := Lib.hid (t3.put (.bool (decide (z.num < 0))) (.slice A4 l4.length c4) (.bool false) (.slice A5 l5.length c5))
         have CR := Lib.hid (CC.put4 t3 (.bool (decide (z.num < 0))) (.slice A4 l4.length c4) (.bool false) (.slice A5 l5.length c5))
         have BL := Lib.hid (below_set4 bel (b := w.heap.size + 2) (by omega) (.bool (decide (z.num < 0))) (.slice A4 l4.length c4) (.bool false) (.slice A5 l5.length c5))))
  go_wp2_with fail
  have r0 := R.out.c0
  have r1 := R.out.c1
  have r2 := R.out.c2
  have r3 := R.out.c3
  unfold set4 at r0 r1 r2 r3
  refine bodyPost_ret (v := .agg #[.bool (decide (z.num < 0)), .slice A4 l4.length c4, .bool false, .slice A5 l5.length c5]) (by simp [results, Tryz.results25, go_sem, r0, r1, r2, r3]) rfl ?_
  exact ⟨A4, c4, l4, A5, c5, l5, rfl, CR.out, BL.out⟩
end Go.Proofs.YtpfaddgcfacgdaaGreatDoor
