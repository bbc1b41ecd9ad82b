/- My texts, packed: H1, LawText, N2, Y2. -/
import Derived.Test.YtkpomjdablopaaaGreatDoorZ16
import Derived.Test.YtkpomjdablopaaaGreatDoorZ13
import Derived.Test.YtkpomjdablopaaaGreatDoorZ17
import Derived.Test.YtkpomjdablopaaaGreatDoorZ14
import Derived.IntWalk
/- Walks of package rational: Text of the reference. -/
namespace Go.Proofs.YtkpomjdablopaaaGreatDoor
open Go.RowKit
set_option linter.unusedVariables false

theorem same_int {W : World} {p q : Bool} {A B : Option Addr} {c d : Nat} {l m : List Nat} {x y : Int} {n k : Nat} (h : Cn W p A c l x n) (h' : Cn W q B d m y k) (hn : n ≤ 1000) (hk : k ≤ 1000) (F : Bool) (hF : decide (x = y) = F) :
    Calls Tryz.prog 31 #[.agg #[.bool p, .slice A l.length c], .agg #[.bool q, .slice B m.length d]] W fun e w' => e = .returned (.bool F) ∧ Below W.heap.size W w' := by
  have h9 := sameInt_any p A c l q B d m W h.iv.sl h'.iv.sl (by have := h.iv.len; omega) (by have := h'.iv.len; omega)
  have e : decide (p = q ∧ l = m) = F := by
    rw [← hF, decide_eq_decide]
    constructor
    · rintro ⟨rfl, rfl⟩; rw [← h.iv.val, ← h'.iv.val]
    · rintro rfl; exact ⟨by rw [h.can.1, h'.can.1], by rw [h.can.2, h'.can.2]⟩
  rwa [e] at h9
set_option maxRecDepth 100000 in
set_option maxHeartbeats 1500000 in
theorem rtext_one {p1 : Bool} {A1 : Option Addr} {c1 : Nat} {l1 : List Nat} {q1 : Bool} {B1 : Option Addr} {d1 : Nat} {m1 : List Nat} {z1 : Rat} {w : World} (h1 : Rv w p1 A1 c1 l1 q1 B1 d1 m1 z1 4) (h1d : z1.den = 1) :
    Calls Tryz.prog 10 #[ratV p1 A1 l1.length c1 q1 B1 m1.length d1] w fun e w' => e = .returned (.string ⟨(rtxt z1).toArray⟩) ∧ Below w.heap.size w w' := by
  have HCL := Lib.hid (fun (W : World) (h : Rv W p1 A1 c1 l1 q1 B1 d1 m1 z1 4) => (rrcln h (by decide) (by decide) : Calls Tryz.prog 12 #[.agg #[.bool p1, .slice A1 l1.length c1, .bool q1, .slice B1 m1.length d1]] W (GR z1 4 W)))
  obtain ⟨hb1, hb2⟩ : z1.num.natAbs < Kn.pw 10 ∧ ((z1.den : Int)).natAbs < Kn.pw 10 := by
    have h := h1.few4
    have a3 := Kn.pw_mono (show 4 ≤ 10 by decide)
    rw [Int.natAbs_natCast]; omega
  have HSM := Lib.hid (fun (W : World) => (rsmall_of (fun W => grofi (by decide) W) W : Calls Tryz.prog 32 #[.int .i64 1] W (GI 1 2 W)))
  have HSA := Lib.hid (fun (W : World) (A : Option Addr) (c : Nat) (l : List Nat) (p' : Bool) (A' : Option Addr) (c' : Nat) (l' : List Nat) (h : Cn W false A c l (z1.den : Int) 4) (h' : Cn W p' A' c' l' 1 2) => (same_int h h' (by decide) (by decide) true (decide_eq_true (by omega)) : Calls Tryz.prog 31 #[.agg #[.bool false, .slice A l.length c], .agg #[.bool p', .slice A' l'.length c']] W fun e w' => e = .returned (.bool true) ∧ Below W.heap.size W w'))
  obtain ⟨s1, hs1⟩ : ∃ s : ByteArray, s = ⟨(Lib.itoa z1.num).toArray⟩ := ⟨_, rfl⟩
  have HT1 := Lib.hid (fun (W : World) (p4 : Bool) (A4 : Option Addr) (c4 : Nat) (l4 : List Nat) (h : Cn W p4 A4 c4 l4 z1.num 4) => (by have e := h.iv.val; have h := rtext_any p4 A4 c4 l4 W h.iv.sl (by have := h.iv.len; omega) (by rw [h.iv.val0]; have := dec10 hb1; omega); rw [e, ← hs1] at h; exact h : Calls Tryz.prog 30 #[.agg #[.bool p4, .slice A4 l4.length c4]] W fun e w' => e = .returned (.string s1) ∧ Below W.heap.size W w'))
  have HS : Hid ((⟨(rtxt z1).toArray⟩ : ByteArray) = s1) := Lib.hid (by rw [hs1]; unfold rtxt; rw [if_pos h1d])
  rw [HS.out]
  clear h1d hs1 hb1 hb2
  unfold ratV
  go_enter Tryz.func10, Tryz.ntmps10
  go_wp2_with fail
  have t1 : Four (w.alloc (.cells #[.bool p1, .slice A1 l1.length c1, .bool q1, .slice B1 m1.length d1] 26)) w.heap.size (.bool p1) (.slice A1 l1.length c1) (.bool q1) (.slice B1 m1.length d1) := Four.new_ w (.bool p1) (.slice A1 l1.length c1) (.bool q1) (.slice B1 m1.length d1) 26
  have bel : Below w.heap.size w (w.alloc (.cells #[.bool p1, .slice A1 l1.length c1, .bool q1, .slice B1 m1.length d1] 26)) := (Below.refl _ _).alloc (Nat.le_refl _) _
  generalize (w.alloc (.cells #[.bool p1, .slice A1 l1.length c1, .bool q1, .slice B1 m1.length d1] 26)) = wx at t1 bel ⊢
  have X := h1.below bel
  have t1_0 := t1.c0
  have t1_1 := t1.c1
  have t1_2 := t1.c2
  have t1_3 := t1.c3
  go_wp2_with fail
  refine (HCL.out _ X).mono ?_
  rintro e w2 ⟨A5, c5, l5, B5, d5, m5, rfl, CC, hb⟩
  clear t1_0 t1_1 t1_2 t1_3
  replace t1 := t1.below hb t1.lt
  replace bel := bel.trans (hb.mono bel.size)
  clear hb
  clear X
  go_upto_region 2 with (fail)
  have hg2 : w.heap.size < w2.heap.size := t1.lt
  have t2 : Four (w2.alloc (.cells #[.bool (decide (z1.num < 0)), .slice A5 l5.length c5, .bool false, .slice B5 m5.length d5] 26)) w2.heap.size (.bool (decide (z1.num < 0))) (.slice A5 l5.length c5) (.bool false) (.slice B5 m5.length d5) := Four.new_ w2 (.bool (decide (z1.num < 0))) (.slice A5 l5.length c5) (.bool false) (.slice B5 m5.length d5) 26
  have bn : Below w2.heap.size w2 (w2.alloc (.cells #[.bool (decide (z1.num < 0)), .slice A5 l5.length c5, .bool false, .slice B5 m5.length d5] 26)) := (Below.refl _ _).alloc (Nat.le_refl _) _
  replace t1 := t1.below bn t1.lt
  replace bel := bel.trans (bn.mono bel.size)
  replace CC := CC.below bn
  clear bn
  generalize (w2.alloc (.cells #[.bool (decide (z1.num < 0)), .slice A5 l5.length c5, .bool false, .slice B5 m5.length d5] 26)) = v1 at t1 bel CC t2 ⊢
  generalize w2.heap.size = g2 at t1 bel CC t2 hg2 ⊢
  have t2_0 := t2.c0
  have t2_1 := t2.c1
  have t2_2 := t2.c2
  have t2_3 := t2.c3
  go_wp2_with fail
  refine (HT1.out _ _ _ _ _ CC.a).mono ?_
  rintro e w3 ⟨rfl, hb⟩
  clear t2_0 t2_1 t2_2 t2_3
  replace t1 := t1.below hb t1.lt
  replace bel := bel.trans (hb.mono bel.size)
  replace CC := CC.below hb
  replace t2 := t2.below hb t2.lt
  clear hb
  go_upto_region 3 with (fail)
  replace t1 := t1.drew
  replace bel := bDrew1 bel
  replace CC := CC.drew
  replace t2 := t2.drew
  go_region_held3 (fun w' => w'.cell? ⟨g2, 0, none⟩ = some (.bool (decide (z1.num < 0))) ∧ w'.cell? ⟨g2, 1, none⟩ = some (.slice A5 l5.length c5) ∧ w'.cell? ⟨g2, 2, none⟩ = some (.bool false) ∧ w'.cell? ⟨g2, 3, none⟩ = some (.slice B5 m5.length d5))
    (with_reducible exact ⟨t2.c0, t2.c1, t2.c2, t2.c3⟩)
    (first
      | (go_at_call 32; (with_reducible refine (HSM.out _).mono ?_); rintro e wa ⟨p7, A7, c7, l7, rfl, E7, hb⟩; replace t1 := t1.below hb t1.lt; replace bel := bel.trans (hb.mono bel.size); replace CC := CC.below hb; replace t2 := t2.below hb t2.lt; clear hb)
      | (go_at_call 31; (with_reducible refine (HSA.out _ _ _ _ _ _ _ _ CC.b E7).mono ?_); rintro e wa ⟨rfl, hb⟩; replace t1 := t1.below hb t1.lt; replace bel := bel.trans (hb.mono bel.size); replace CC := CC.below hb; replace t2 := t2.below hb t2.lt; replace E7 := E7.below hb; clear hb))
  clear E7
  go_wp2_with fail
  go_ret
  exact ⟨rfl, bel⟩

set_option maxRecDepth 100000 in
set_option maxHeartbeats 1500000 in
theorem rtext_two {p1 : Bool} {A1 : Option Addr} {c1 : Nat} {l1 : List Nat} {q1 : Bool} {B1 : Option Addr} {d1 : Nat} {m1 : List Nat} {z1 : Rat} {w : World} (h1 : Rv w p1 A1 c1 l1 q1 B1 d1 m1 z1 4) (h1d : ¬ z1.den = 1) :
    Calls Tryz.prog 10 #[ratV p1 A1 l1.length c1 q1 B1 m1.length d1] w fun e w' => e = .returned (.string ⟨(rtxt z1).toArray⟩) ∧ Below w.heap.size w w' := by
  have HCL := Lib.hid (fun (W : World) (h : Rv W p1 A1 c1 l1 q1 B1 d1 m1 z1 4) => (rrcln h (by decide) (by decide) : Calls Tryz.prog 12 #[.agg #[.bool p1, .slice A1 l1.length c1, .bool q1, .slice B1 m1.length d1]] W (GR z1 4 W)))
  obtain ⟨hb1, hb2⟩ : z1.num.natAbs < Kn.pw 10 ∧ ((z1.den : Int)).natAbs < Kn.pw 10 := by
    have h := h1.few4
    have a3 := Kn.pw_mono (show 4 ≤ 10 by decide)
    rw [Int.natAbs_natCast]; omega
  have HSM := Lib.hid (fun (W : World) => (rsmall_of (fun W => grofi (by decide) W) W : Calls Tryz.prog 32 #[.int .i64 1] W (GI 1 2 W)))
  have HSA := Lib.hid (fun (W : World) (A : Option Addr) (c : Nat) (l : List Nat) (p' : Bool) (A' : Option Addr) (c' : Nat) (l' : List Nat) (h : Cn W false A c l (z1.den : Int) 4) (h' : Cn W p' A' c' l' 1 2) => (same_int h h' (by decide) (by decide) false (decide_eq_false (by omega)) : Calls Tryz.prog 31 #[.agg #[.bool false, .slice A l.length c], .agg #[.bool p', .slice A' l'.length c']] W fun e w' => e = .returned (.bool false) ∧ Below W.heap.size W w'))
  obtain ⟨s1, hs1⟩ : ∃ s : ByteArray, s = ⟨(Lib.itoa z1.num).toArray⟩ := ⟨_, rfl⟩
  have HT1 := Lib.hid (fun (W : World) (p4 : Bool) (A4 : Option Addr) (c4 : Nat) (l4 : List Nat) (h : Cn W p4 A4 c4 l4 z1.num 4) => (by have e := h.iv.val; have h := rtext_any p4 A4 c4 l4 W h.iv.sl (by have := h.iv.len; omega) (by rw [h.iv.val0]; have := dec10 hb1; omega); rw [e, ← hs1] at h; exact h : Calls Tryz.prog 30 #[.agg #[.bool p4, .slice A4 l4.length c4]] W fun e w' => e = .returned (.string s1) ∧ Below W.heap.size W w'))
  obtain ⟨s2, hs2⟩ : ∃ s : ByteArray, s = ⟨(Lib.itoa (z1.den : Int)).toArray⟩ := ⟨_, rfl⟩
  have HT2 := Lib.hid (fun (W : World) (p4 : Bool) (A4 : Option Addr) (c4 : Nat) (l4 : List Nat) (h : Cn W p4 A4 c4 l4 (z1.den : Int) 4) => (by have e := h.iv.val; have h := rtext_any p4 A4 c4 l4 W h.iv.sl (by have := h.iv.len; omega) (by rw [h.iv.val0]; have := dec10 hb2; omega); rw [e, ← hs2] at h; exact h : Calls Tryz.prog 30 #[.agg #[.bool p4, .slice A4 l4.length c4]] W fun e w' => e = .returned (.string s2) ∧ Below W.heap.size W w'))
  have HS : Hid ((⟨(rtxt z1).toArray⟩ : ByteArray) = s1 ++ ⟨#[47]⟩ ++ s2) := Lib.hid (by rw [hs1, hs2]; unfold rtxt; rw [if_neg h1d]; exact (congrArg (· ++ _) (str_app _ [47])).symm ▸ (str_app _ _).symm)
  rw [HS.out]
  have z8 : s1.size ≤ 101 := by rw [hs1]; exact itoa_len hb1
  have z9 : s2.size ≤ 101 := by rw [hs2]; exact itoa_len hb2
  clear hs2
  clear h1d hs1 hb1 hb2
  unfold ratV
  go_enter Tryz.func10, Tryz.ntmps10
  go_wp2_with fail
  have t1 : Four (w.alloc (.cells #[.bool p1, .slice A1 l1.length c1, .bool q1, .slice B1 m1.length d1] 26)) w.heap.size (.bool p1) (.slice A1 l1.length c1) (.bool q1) (.slice B1 m1.length d1) := Four.new_ w (.bool p1) (.slice A1 l1.length c1) (.bool q1) (.slice B1 m1.length d1) 26
  have bel : Below w.heap.size w (w.alloc (.cells #[.bool p1, .slice A1 l1.length c1, .bool q1, .slice B1 m1.length d1] 26)) := (Below.refl _ _).alloc (Nat.le_refl _) _
  generalize (w.alloc (.cells #[.bool p1, .slice A1 l1.length c1, .bool q1, .slice B1 m1.length d1] 26)) = wx at t1 bel ⊢
  have X := h1.below bel
  have t1_0 := t1.c0
  have t1_1 := t1.c1
  have t1_2 := t1.c2
  have t1_3 := t1.c3
  go_wp2_with fail
  refine (HCL.out _ X).mono ?_
  rintro e w2 ⟨A5, c5, l5, B5, d5, m5, rfl, CC, hb⟩
  clear t1_0 t1_1 t1_2 t1_3
  replace t1 := t1.below hb t1.lt
  replace bel := bel.trans (hb.mono bel.size)
  clear hb
  clear X
  go_upto_region 2 with (fail)
  have hg2 : w.heap.size < w2.heap.size := t1.lt
  have t2 : Four (w2.alloc (.cells #[.bool (decide (z1.num < 0)), .slice A5 l5.length c5, .bool false, .slice B5 m5.length d5] 26)) w2.heap.size (.bool (decide (z1.num < 0))) (.slice A5 l5.length c5) (.bool false) (.slice B5 m5.length d5) := Four.new_ w2 (.bool (decide (z1.num < 0))) (.slice A5 l5.length c5) (.bool false) (.slice B5 m5.length d5) 26
  have bn : Below w2.heap.size w2 (w2.alloc (.cells #[.bool (decide (z1.num < 0)), .slice A5 l5.length c5, .bool false, .slice B5 m5.length d5] 26)) := (Below.refl _ _).alloc (Nat.le_refl _) _
  replace t1 := t1.below bn t1.lt
  replace bel := bel.trans (bn.mono bel.size)
  replace CC := CC.below bn
  clear bn
  generalize (w2.alloc (.cells #[.bool (decide (z1.num < 0)), .slice A5 l5.length c5, .bool false, .slice B5 m5.length d5] 26)) = v1 at t1 bel CC t2 ⊢
  generalize w2.heap.size = g2 at t1 bel CC t2 hg2 ⊢
  have t2_0 := t2.c0
  have t2_1 := t2.c1
  have t2_2 := t2.c2
  have t2_3 := t2.c3
  go_wp2_with fail
  refine (HT1.out _ _ _ _ _ CC.a).mono ?_
  rintro e w3 ⟨rfl, hb⟩
  clear t2_0 t2_1 t2_2 t2_3
  replace t1 := t1.below hb t1.lt
  replace bel := bel.trans (hb.mono bel.size)
  replace CC := CC.below hb
  replace t2 := t2.below hb t2.lt
  clear hb
  go_upto_region 3 with (fail)
  replace t1 := t1.drew
  replace bel := bDrew1 bel
  replace CC := CC.drew
  replace t2 := t2.drew
  go_region_held3 (fun w' => w'.cell? ⟨g2, 0, none⟩ = some (.bool (decide (z1.num < 0))) ∧ w'.cell? ⟨g2, 1, none⟩ = some (.slice A5 l5.length c5) ∧ w'.cell? ⟨g2, 2, none⟩ = some (.bool false) ∧ w'.cell? ⟨g2, 3, none⟩ = some (.slice B5 m5.length d5))
    (with_reducible exact ⟨t2.c0, t2.c1, t2.c2, t2.c3⟩)
    (first
      | (go_at_call 32; (with_reducible refine (HSM.out _).mono ?_); rintro e wa ⟨p7, A7, c7, l7, rfl, E7, hb⟩; replace t1 := t1.below hb t1.lt; replace bel := bel.trans (hb.mono bel.size); replace CC := CC.below hb; replace t2 := t2.below hb t2.lt; clear hb)
      | (go_at_call 31; (with_reducible refine (HSA.out _ _ _ _ _ _ _ _ CC.b E7).mono ?_); rintro e wa ⟨rfl, hb⟩; replace t1 := t1.below hb t1.lt; replace bel := bel.trans (hb.mono bel.size); replace CC := CC.below hb; replace t2 := t2.below hb t2.lt; replace E7 := E7.below hb; clear hb))
  clear E7
  have k1 : (9223372036854775807 < s1.size + 1) = False := eq_false (by omega)
  have k2 : (9223372036854775807 < s1.size + 1 + s2.size) = False := eq_false (by omega)
  clear z8 z9
  have t2_0 := t2.c0
  have t2_1 := t2.c1
  have t2_2 := t2.c2
  have t2_3 := t2.c3
  go_wp2_with fail
  refine (HT2.out _ _ _ _ _ CC.b).mono ?_
  rintro e w4 ⟨rfl, hb⟩
  clear t2_0 t2_1 t2_2 t2_3
  replace t1 := t1.below hb t1.lt
  replace bel := bel.trans (hb.mono bel.size)
  replace CC := CC.below hb
  replace t2 := t2.below hb t2.lt
  clear hb
  go_wp2_with fail
  go_ret
  exact ⟨rfl, bel⟩

theorem rrtext {p1 : Bool} {A1 : Option Addr} {c1 : Nat} {l1 : List Nat} {q1 : Bool} {B1 : Option Addr} {d1 : Nat} {m1 : List Nat} {z1 : Rat} {w : World} (h1 : Rv w p1 A1 c1 l1 q1 B1 d1 m1 z1 4) :
    Calls Tryz.prog 10 #[ratV p1 A1 l1.length c1 q1 B1 m1.length d1] w fun e w' => e = .returned (.string ⟨(rtxt z1).toArray⟩) ∧ Below w.heap.size w w' := by
  by_cases h : z1.den = 1
  · exact rtext_one h1 h
  · exact rtext_two h1 h
end Go.Proofs.YtkpomjdablopaaaGreatDoor
/- Walks of package rational: RationalText, the law. -/
namespace Go.Proofs.YtkpomjdablopaaaGreatDoor
open Go.RowKit
set_option linter.unusedVariables false

set_option maxRecDepth 100000 in
set_option maxHeartbeats 1500000 in
theorem text_few1 (p1 : Bool) (A1 : Option Addr) (l1 : List Nat) (c1 : Nat) (q1 : Bool) (B1 : Option Addr) (m1 : List Nat) (d1 : Nat) (w : World) (ht : Tabs w) (mx : Mx w) (f1 : decide (l1.length ≤ 4 ∧ m1.length ≤ 4) = false) :
    Calls Tryz.prog 3 #[ratV p1 A1 l1.length c1 q1 B1 m1.length d1] w fun e w' => e = .returned (.bool true) ∧ Below w.heap.size w w' := by
  have HF1 := Lib.hid (fun (W : World) => gfew p1 A1 c1 l1.length q1 B1 d1 m1.length false (Lib.hid f1) W)
  clear f1
  unfold ratV
  go_enter Tryz.func3, Tryz.ntmps3
  go_wp2_with fail
  have t1 : Four (w.alloc (.cells #[.bool p1, .slice A1 l1.length c1, .bool q1, .slice B1 m1.length d1] 26)) w.heap.size (.bool p1) (.slice A1 l1.length c1) (.bool q1) (.slice B1 m1.length d1) := Four.new_ w (.bool p1) (.slice A1 l1.length c1) (.bool q1) (.slice B1 m1.length d1) 26
  have bel : Below w.heap.size w (w.alloc (.cells #[.bool p1, .slice A1 l1.length c1, .bool q1, .slice B1 m1.length d1] 26)) := (Below.refl _ _).alloc (Nat.le_refl _) _
  generalize (w.alloc (.cells #[.bool p1, .slice A1 l1.length c1, .bool q1, .slice B1 m1.length d1] 26)) = wx at t1 bel ⊢
  refine (rknown_ok _ (ht.below bel) (mx.below_ bel)).mono ?_
  rintro e w2 ⟨rfl, hb⟩
  replace t1 := t1.below hb t1.lt
  replace bel := bel.trans (hb.mono bel.size)
  clear hb
  have t1_0 := t1.c0
  have t1_1 := t1.c1
  have t1_2 := t1.c2
  have t1_3 := t1.c3
  go_wp2_with fail
  refine (HF1.out _).mono ?_
  rintro e w3 ⟨rfl, hb⟩
  clear t1_0 t1_1 t1_2 t1_3
  replace t1 := t1.below hb t1.lt
  replace bel := bel.trans (hb.mono bel.size)
  clear hb
  go_wp2_with fail
  go_ret
  exact ⟨rfl, bel⟩

set_option maxRecDepth 100000 in
set_option maxHeartbeats 2000000 in
theorem text_main (p1 : Bool) (A1 : Option Addr) (l1 : List Nat) (c1 : Nat) (q1 : Bool) (B1 : Option Addr) (m1 : List Nat) (d1 : Nat) {z1 : Rat} (w : World) (h1 : Rv w p1 A1 c1 l1 q1 B1 d1 m1 z1 4) (ht : Tabs w) (mx : Mx w) (f1 : decide (l1.length ≤ 4 ∧ m1.length ≤ 4) = true) :
    Calls Tryz.prog 3 #[ratV p1 A1 l1.length c1 q1 B1 m1.length d1] w fun e w' => e = .returned (.bool true) ∧ Below w.heap.size w w' := by
  obtain ⟨s, hs⟩ : ∃ s : ByteArray, s = ⟨(rtxt z1).toArray⟩ := ⟨_, rfl⟩
  have hbs : bs s = rtxt z1 := by rw [hs]; simp [bs]
  have hpr := pr_rtxt z1 h1.few4.1 h1.few4.2
  have HT := Lib.hid (fun (W : World) (h : Rv W p1 A1 c1 l1 q1 B1 d1 m1 z1 4) (ht : Tabs W) => (by obtain ⟨x, y, hx, hy, hz⟩ := h; have h := grtext hx hy (by decide) (by decide) ht; rw [hz, ← hs] at h; exact h : Calls Tryz.prog 8 #[.agg #[.bool p1, .slice A1 l1.length c1, .bool q1, .slice B1 m1.length d1]] W fun e w' => e = .returned (.string s) ∧ Below W.heap.size W w'))
  have HR := Lib.hid (fun (W : World) (h : Rv W p1 A1 c1 l1 q1 B1 d1 m1 z1 4) => (by have h := rrtext h; rw [← hs] at h; exact h : Calls Tryz.prog 10 #[.agg #[.bool p1, .slice A1 l1.length c1, .bool q1, .slice B1 m1.length d1]] W fun e w' => e = .returned (.string s) ∧ Below W.heap.size W w'))
  have HP := Lib.hid (fun (W : World) (mx : Mx W) => ((pparse s (by rw [← bs_length, hbs]; have := hpr.2.2.2; omega) W mx).mono (fun e w' h => by rw [hbs] at h; exact PR.get hpr.1 hpr.2.1 hpr.2.2.1 h) : Calls Tryz.prog 9 #[.string s] W (GRc z1 100 W)))
  have HC := Lib.hid (fun (W : World) (h : Rv W p1 A1 c1 l1 q1 B1 d1 m1 z1 4) => (rrcln h (by decide) (by decide) : Calls Tryz.prog 12 #[.agg #[.bool p1, .slice A1 l1.length c1, .bool q1, .slice B1 m1.length d1]] W (GR z1 4 W)))
  have HSM := Lib.hid (fun (W : World) (A : Option Addr) (c : Nat) (l : List Nat) (B : Option Addr) (d : Nat) (m : List Nat) (A' : Option Addr) (c' : Nat) (l' : List Nat) (B' : Option Addr) (d' : Nat) (m' : List Nat) (h : Cr W A c l B d m z1 100) (h' : Cr W A' c' l' B' d' m' z1 4) => (by have h := grsame h h' (by decide) (by decide); rwa [decide_eq_true rfl] at h : Calls Tryz.prog 11 #[.agg #[.bool (decide (z1.num < 0)), .slice A l.length c, .bool false, .slice B m.length d], .agg #[.bool (decide (z1.num < 0)), .slice A' l'.length c', .bool false, .slice B' m'.length d']] W fun e w' => e = .returned (.bool true) ∧ Below W.heap.size W w'))
  have hbq : (s.toList == s.toList) = true := beq_self_eq_true _
  clear hs hbs hpr
  have HF1 := Lib.hid (fun (W : World) => gfew p1 A1 c1 l1.length q1 B1 d1 m1.length true (Lib.hid f1) W)
  clear f1
  unfold ratV
  go_enter Tryz.func3, Tryz.ntmps3
  go_wp2_with fail
  have t1 : Four (w.alloc (.cells #[.bool p1, .slice A1 l1.length c1, .bool q1, .slice B1 m1.length d1] 26)) w.heap.size (.bool p1) (.slice A1 l1.length c1) (.bool q1) (.slice B1 m1.length d1) := Four.new_ w (.bool p1) (.slice A1 l1.length c1) (.bool q1) (.slice B1 m1.length d1) 26
  have bel : Below w.heap.size w (w.alloc (.cells #[.bool p1, .slice A1 l1.length c1, .bool q1, .slice B1 m1.length d1] 26)) := (Below.refl _ _).alloc (Nat.le_refl _) _
  generalize (w.alloc (.cells #[.bool p1, .slice A1 l1.length c1, .bool q1, .slice B1 m1.length d1] 26)) = wx at t1 bel ⊢
  refine (rknown_ok _ (ht.below bel) (mx.below_ bel)).mono ?_
  rintro e w2 ⟨rfl, hb⟩
  replace t1 := t1.below hb t1.lt
  replace bel := bel.trans (hb.mono bel.size)
  clear hb
  have t1_0 := t1.c0
  have t1_1 := t1.c1
  have t1_2 := t1.c2
  have t1_3 := t1.c3
  go_wp2_with fail
  refine (HF1.out _).mono ?_
  rintro e w3 ⟨rfl, hb⟩
  clear t1_0 t1_1 t1_2 t1_3
  replace t1 := t1.below hb t1.lt
  replace bel := bel.trans (hb.mono bel.size)
  clear hb
  clear HF1
  have X := h1.below bel
  have T := ht.below bel
  have t1_0 := t1.c0
  have t1_1 := t1.c1
  have t1_2 := t1.c2
  have t1_3 := t1.c3
  go_wp2_with fail
  refine (HT.out _ X T).mono ?_
  rintro e w4 ⟨rfl, hb⟩
  clear t1_0 t1_1 t1_2 t1_3
  replace t1 := t1.below hb t1.lt
  replace bel := bel.trans (hb.mono bel.size)
  clear hb
  clear X T
  have M := mx.below_ bel
  go_wp2_with fail
  refine (HP.out _ M).mono ?_
  rintro e w5 ⟨A4, c4, l4, B4, d4, m4, rfl, E4, hb⟩
  replace t1 := t1.below hb t1.lt
  replace bel := bel.trans (hb.mono bel.size)
  clear hb
  clear M
  go_upto_region 7 with (fail)
  have hg4 : w.heap.size < w5.heap.size := t1.lt
  have t4 : Four (w5.alloc (.cells #[.bool (decide (z1.num < 0)), .slice A4 l4.length c4, .bool false, .slice B4 m4.length d4] 26)) w5.heap.size (.bool (decide (z1.num < 0))) (.slice A4 l4.length c4) (.bool false) (.slice B4 m4.length d4) := Four.new_ w5 (.bool (decide (z1.num < 0))) (.slice A4 l4.length c4) (.bool false) (.slice B4 m4.length d4) 26
  have bn : Below w5.heap.size w5 (w5.alloc (.cells #[.bool (decide (z1.num < 0)), .slice A4 l4.length c4, .bool false, .slice B4 m4.length d4] 26)) := (Below.refl _ _).alloc (Nat.le_refl _) _
  replace t1 := t1.below bn t1.lt
  replace bel := bel.trans (bn.mono bel.size)
  replace E4 := E4.below bn
  clear bn
  generalize (w5.alloc (.cells #[.bool (decide (z1.num < 0)), .slice A4 l4.length c4, .bool false, .slice B4 m4.length d4] 26)) = v1 at t1 bel E4 t4 ⊢
  generalize w5.heap.size = g4 at t1 bel E4 t4 hg4 ⊢
  have X := h1.below bel
  replace t1 := t1.drew
  replace bel := bDrew1 bel
  replace E4 := E4.drew
  replace t4 := t4.drew
  replace X := X.drew
  go_region_held3 (fun w' => w'.cell? ⟨w.heap.size, 0, none⟩ = some (.bool p1) ∧ w'.cell? ⟨w.heap.size, 1, none⟩ = some (.slice A1 l1.length c1) ∧ w'.cell? ⟨w.heap.size, 2, none⟩ = some (.bool q1) ∧ w'.cell? ⟨w.heap.size, 3, none⟩ = some (.slice B1 m1.length d1) ∧ w'.cell? ⟨g4, 0, none⟩ = some (.bool (decide (z1.num < 0))) ∧ w'.cell? ⟨g4, 1, none⟩ = some (.slice A4 l4.length c4) ∧ w'.cell? ⟨g4, 2, none⟩ = some (.bool false) ∧ w'.cell? ⟨g4, 3, none⟩ = some (.slice B4 m4.length d4))
    (with_reducible exact ⟨t1.c0, t1.c1, t1.c2, t1.c3, t4.c0, t4.c1, t4.c2, t4.c3⟩)
    (first
      | (go_at_call 10; (with_reducible refine (HR.out _ X).mono ?_); rintro e wa ⟨rfl, hb⟩; replace t1 := t1.below hb t1.lt; replace bel := bel.trans (hb.mono bel.size); replace E4 := E4.below hb; replace t4 := t4.below hb t4.lt; replace X := X.below hb; clear hb)
      | (go_at_call 12; (with_reducible refine (HC.out _ X).mono ?_); rintro e wa ⟨A5, c5, l5, B5, d5, m5, rfl, E5, hb⟩; replace t1 := t1.below hb t1.lt; replace bel := bel.trans (hb.mono bel.size); replace E4 := E4.below hb; replace t4 := t4.below hb t4.lt; replace X := X.below hb; clear hb)
      | (go_at_call 11; (with_reducible refine (HSM.out _ _ _ _ _ _ _ _ _ _ _ _ _ E4 E5).mono ?_); rintro e wa ⟨rfl, hb⟩; replace t1 := t1.below hb t1.lt; replace bel := bel.trans (hb.mono bel.size); replace E4 := E4.below hb; replace t4 := t4.below hb t4.lt; replace X := X.below hb; replace E5 := E5.below hb; clear hb))
  go_wp2_with fail
  go_ret
  exact ⟨rfl, bel⟩

theorem text_walk (p1 : Bool) (A1 : Option Addr) (c1 : Nat) (l1 : List Nat) (q1 : Bool) (B1 : Option Addr) (d1 : Nat) (m1 : List Nat) (w : World) (h1 : Sl w w.heap.size A1 c1 l1) (k1 : Sl w w.heap.size B1 d1 m1) (ht : Tabs w) (mx : Mx w) :
    Calls Tryz.prog 3 #[ratV p1 A1 l1.length c1 q1 B1 m1.length d1] w fun e w' => e = .returned (.bool true) ∧ Below w.heap.size w w' := by
  cases f1 : decide (l1.length ≤ 4 ∧ m1.length ≤ 4) with
  | false => exact text_few1 p1 A1 l1 c1 q1 B1 m1 d1 w ht mx f1
  | true =>
    have r1 : Rv w p1 A1 c1 l1 q1 B1 d1 m1 _ 4 := ⟨_, _, ⟨h1, rfl, (of_decide_eq_true f1).1⟩, ⟨k1, rfl, (of_decide_eq_true f1).2⟩, rfl⟩
    exact text_main p1 A1 l1 c1 q1 B1 m1 d1 w r1 ht mx f1
end Go.Proofs.YtkpomjdablopaaaGreatDoor
/- Walks of package rational: Mul of the reference. -/
namespace Go.Proofs.YtkpomjdablopaaaGreatDoor
open Go.RowKit
set_option linter.unusedVariables false

set_option maxRecDepth 100000 in
set_option maxHeartbeats 2000000 in
theorem rrmul {p1 : Bool} {A1 : Option Addr} {c1 : Nat} {l1 : List Nat} {q1 : Bool} {B1 : Option Addr} {d1 : Nat} {m1 : List Nat} {z1 : Rat} {p2 : Bool} {A2 : Option Addr} {c2 : Nat} {l2 : List Nat} {q2 : Bool} {B2 : Option Addr} {d2 : Nat} {m2 : List Nat} {z2 : Rat} {n k : Nat} {w : World} (h1 : Rv w p1 A1 c1 l1 q1 B1 d1 m1 z1 n) (h2 : Rv w p2 A2 c2 l2 q2 B2 d2 m2 z2 k) (hn : n ≤ 40) (hn1 : 1 ≤ n) (hk : k ≤ 40) (hk1 : 1 ≤ k) :
    Calls Tryz.prog 82 #[ratV p1 A1 l1.length c1 q1 B1 m1.length d1, ratV p2 A2 l2.length c2 q2 B2 m2.length d2] w (GR (z1 * z2) (n + k) w) := by
  have HN1 := Lib.hid hn1
  obtain ⟨z, hz⟩ : ∃ z, z = z1 * z2 := ⟨_, rfl⟩
  rw [← hz]
  have HZ := Lib.hid hz
  clear hz
  have HN := Lib.hid hn
  have HK := Lib.hid hk
  have HM1 := Lib.hid (fun (W : World) (A : Option Addr) (c : Nat) (l : List Nat) (Bb : Option Addr) (d : Nat) (m : List Nat) (h : Cn W (decide (z1.num < 0)) A c l z1.num n) (h' : Cn W (decide (z2.num < 0)) Bb d m z2.num k) => grmul h.iv h'.iv (by have := HN.out; have := HK.out; omega) (by have := HN.out; have := HK.out; omega))
  have HM2 := Lib.hid (fun (W : World) (A : Option Addr) (c : Nat) (l : List Nat) (Bb : Option Addr) (d : Nat) (m : List Nat) (h : Cn W false A c l (z1.den : Int) n) (h' : Cn W false Bb d m (z2.den : Int) k) => grmul h.iv h'.iv (by have := HN.out; have := HK.out; omega) (by have := HN.out; have := HK.out; omega))
  have HNW := Lib.hid (fun (W : World) (pa : Bool) (Aa : Option Addr) (ca : Nat) (la : List Nat) (pb : Bool) (Ab : Option Addr) (cb : Nat) (lb : List Nat) (h : Cn W pa Aa ca la (z1.num * z2.num) (n + k)) (h' : Cn W pb Ab cb lb ((z1.den : Int) * (z2.den : Int)) (n + k)) => (by have h := grnew h.iv h'.iv (Int.ne_of_gt (Int.mul_pos (rq_den_pos z1) (rq_den_pos z2))) (by have := HN.out; have := HK.out; omega) (by have := HN1.out; omega); rw [← Rat.divInt_mul_divInt, rq_self, rq_self, ← HZ.out] at h; exact h : Calls Tryz.prog 33 #[.agg #[.bool pa, .slice Aa la.length ca], .agg #[.bool pb, .slice Ab lb.length cb]] W (GRc z (n + k) W)))
  clear HN HK
  have HC1 := Lib.hid (fun (W : World) (h : Rv W p1 A1 c1 l1 q1 B1 d1 m1 z1 n) => rrcln h (by omega) hn1)
  have HC2 := Lib.hid (fun (W : World) (h : Rv W p2 A2 c2 l2 q2 B2 d2 m2 z2 k) => rrcln h (by omega) hk1)
  have HN := Lib.hid hn
  have HK := Lib.hid hk
  clear hn hn1 hk hk1
  unfold ratV
  go_enter Tryz.func82, Tryz.ntmps82
  go_wp2_with fail
  have t1 : Four (((w.alloc (.cells #[.bool p1, .slice A1 l1.length c1, .bool q1, .slice B1 m1.length d1] 26)).alloc (.cells #[.bool p2, .slice A2 l2.length c2, .bool q2, .slice B2 m2.length d2] 26)).alloc (.cells #[.bool false, .slice none 0 0, .bool false, .slice none 0 0] 26)) w.heap.size (.bool p1) (.slice A1 l1.length c1) (.bool q1) (.slice B1 m1.length d1) := ((Four.new_ w (.bool p1) (.slice A1 l1.length c1) (.bool q1) (.slice B1 m1.length d1) 26).alloc _).alloc _
  have t2 : Four (((w.alloc (.cells #[.bool p1, .slice A1 l1.length c1, .bool q1, .slice B1 m1.length d1] 26)).alloc (.cells #[.bool p2, .slice A2 l2.length c2, .bool q2, .slice B2 m2.length d2] 26)).alloc (.cells #[.bool false, .slice none 0 0, .bool false, .slice none 0 0] 26)) (w.heap.size + 1) (.bool p2) (.slice A2 l2.length c2) (.bool q2) (.slice B2 m2.length d2) := by simpa only [World.size_alloc, Nat.add_assoc, Nat.reduceAdd] using (Four.new_ (w.alloc (.cells #[.bool p1, .slice A1 l1.length c1, .bool q1, .slice B1 m1.length d1] 26)) (.bool p2) (.slice A2 l2.length c2) (.bool q2) (.slice B2 m2.length d2) 26).alloc _
  have t3 : Four (((w.alloc (.cells #[.bool p1, .slice A1 l1.length c1, .bool q1, .slice B1 m1.length d1] 26)).alloc (.cells #[.bool p2, .slice A2 l2.length c2, .bool q2, .slice B2 m2.length d2] 26)).alloc (.cells #[.bool false, .slice none 0 0, .bool false, .slice none 0 0] 26)) (w.heap.size + 2) (.bool false) (.slice none 0 0) (.bool false) (.slice none 0 0) := by simpa only [World.size_alloc, Nat.add_assoc, Nat.reduceAdd] using Four.new_ ((w.alloc (.cells #[.bool p1, .slice A1 l1.length c1, .bool q1, .slice B1 m1.length d1] 26)).alloc (.cells #[.bool p2, .slice A2 l2.length c2, .bool q2, .slice B2 m2.length d2] 26)) (.bool false) (.slice none 0 0) (.bool false) (.slice none 0 0) 26
  have bel : Below w.heap.size w (((w.alloc (.cells #[.bool p1, .slice A1 l1.length c1, .bool q1, .slice B1 m1.length d1] 26)).alloc (.cells #[.bool p2, .slice A2 l2.length c2, .bool q2, .slice B2 m2.length d2] 26)).alloc (.cells #[.bool false, .slice none 0 0, .bool false, .slice none 0 0] 26)) := (((Below.refl _ _).alloc (Nat.le_refl _) _).alloc (by simp only [World.size_alloc]; omega) _).alloc (by simp only [World.size_alloc]; omega) _
  generalize (((w.alloc (.cells #[.bool p1, .slice A1 l1.length c1, .bool q1, .slice B1 m1.length d1] 26)).alloc (.cells #[.bool p2, .slice A2 l2.length c2, .bool q2, .slice B2 m2.length d2] 26)).alloc (.cells #[.bool false, .slice none 0 0, .bool false, .slice none 0 0] 26)) = wx at t1 t2 t3 bel ⊢
  have X := h1.below bel
  have t1_0 := t1.c0
  have t1_1 := t1.c1
  have t1_2 := t1.c2
  have t1_3 := t1.c3
  go_wp2_with fail
  refine (HC1.out _ X).mono ?_
  rintro e w2 ⟨A5, c5, l5, B5, d5, m5, rfl, C1, hb⟩
  clear t1_0 t1_1 t1_2 t1_3
  clear t1
  replace t2 := t2.below hb t2.lt
  replace t3 := t3.below hb t3.lt
  replace bel := bel.trans (hb.mono bel.size)
  clear hb
  clear X
  go_upto_region 2 with (fail)
  have hg5 : w.heap.size + 2 < w2.heap.size := t3.lt
  have t5 : Four (w2.alloc (.cells #[.bool (decide (z1.num < 0)), .slice A5 l5.length c5, .bool false, .slice B5 m5.length d5] 26)) w2.heap.size (.bool (decide (z1.num < 0))) (.slice A5 l5.length c5) (.bool false) (.slice B5 m5.length d5) := Four.new_ w2 (.bool (decide (z1.num < 0))) (.slice A5 l5.length c5) (.bool false) (.slice B5 m5.length d5) 26
  have bn : Below w2.heap.size w2 (w2.alloc (.cells #[.bool (decide (z1.num < 0)), .slice A5 l5.length c5, .bool false, .slice B5 m5.length d5] 26)) := (Below.refl _ _).alloc (Nat.le_refl _) _
  replace t2 := t2.below bn t2.lt
  replace t3 := t3.below bn t3.lt
  replace bel := bel.trans (bn.mono bel.size)
  replace C1 := C1.below bn
  clear bn
  generalize (w2.alloc (.cells #[.bool (decide (z1.num < 0)), .slice A5 l5.length c5, .bool false, .slice B5 m5.length d5] 26)) = v1 at t2 t3 bel C1 t5 ⊢
  generalize w2.heap.size = g5 at t2 t3 bel C1 t5 hg5 ⊢
  have Y := h2.below bel
  have t2_0 := t2.c0
  have t2_1 := t2.c1
  have t2_2 := t2.c2
  have t2_3 := t2.c3
  go_wp2_with fail
  refine (HC2.out _ Y).mono ?_
  rintro e w3 ⟨A6, c6, l6, B6, d6, m6, rfl, C2, hb⟩
  clear t2_0 t2_1 t2_2 t2_3
  clear t2
  replace t3 := t3.below hb t3.lt
  replace bel := bel.trans (hb.mono bel.size)
  replace C1 := C1.below hb
  replace t5 := t5.below hb t5.lt
  clear hb
  clear Y
  go_upto_region 3 with (fail)
  have hg6 : g5 < w3.heap.size := t5.lt
  have t6 : Four (w3.alloc (.cells #[.bool (decide (z2.num < 0)), .slice A6 l6.length c6, .bool false, .slice B6 m6.length d6] 26)) w3.heap.size (.bool (decide (z2.num < 0))) (.slice A6 l6.length c6) (.bool false) (.slice B6 m6.length d6) := Four.new_ w3 (.bool (decide (z2.num < 0))) (.slice A6 l6.length c6) (.bool false) (.slice B6 m6.length d6) 26
  have bn : Below w3.heap.size w3 (w3.alloc (.cells #[.bool (decide (z2.num < 0)), .slice A6 l6.length c6, .bool false, .slice B6 m6.length d6] 26)) := (Below.refl _ _).alloc (Nat.le_refl _) _
  replace t3 := t3.below bn t3.lt
  replace bel := bel.trans (bn.mono bel.size)
  replace C1 := C1.below bn
  replace t5 := t5.below bn t5.lt
  replace C2 := C2.below bn
  clear bn
  generalize (w3.alloc (.cells #[.bool (decide (z2.num < 0)), .slice A6 l6.length c6, .bool false, .slice B6 m6.length d6] 26)) = v2 at t3 bel C1 t5 C2 t6 ⊢
  generalize w3.heap.size = g6 at t3 bel C1 t5 C2 t6 hg6 ⊢
  go_cut [7] (fun s wx => Bx (w.heap.size + 2) z (n + k) s wx ∧ Four wx (w.heap.size + 2) (.bool false) (.slice none 0 0) (.bool false) (.slice none 0 0) ∧ Below w.heap.size w wx)
  case first =>
    have zz := t6.lt
    have zzt5 := t5.lt
    go_region_held3 (fun w' => w'.cell? ⟨g5, 0, none⟩ = some (.bool (decide (z1.num < 0))) ∧ w'.cell? ⟨g5, 1, none⟩ = some (.slice A5 l5.length c5) ∧ w'.cell? ⟨g5, 2, none⟩ = some (.bool false) ∧ w'.cell? ⟨g5, 3, none⟩ = some (.slice B5 m5.length d5) ∧ w'.cell? ⟨g6, 0, none⟩ = some (.bool (decide (z2.num < 0))) ∧ w'.cell? ⟨g6, 1, none⟩ = some (.slice A6 l6.length c6) ∧ w'.cell? ⟨g6, 2, none⟩ = some (.bool false) ∧ w'.cell? ⟨g6, 3, none⟩ = some (.slice B6 m6.length d6))
      ((repeat' (first | (with_reducible refine And.intro ?_ ?_) | (with_reducible refine far4c ?_ ?_) | (with_reducible refine far2c ?_ ?_) | (with_reducible refine cell_allocc ?_) | (with_reducible refine cell_drewc ?_))) <;> (first | (with_reducible exact t5.c0) | (with_reducible exact t5.c1) | (with_reducible exact t5.c2) | (with_reducible exact t5.c3) | (with_reducible exact t6.c0) | (with_reducible exact t6.c1) | (with_reducible exact t6.c2) | (with_reducible exact t6.c3) | omega | (simp; omega)))
      (first
        | (go_at_call 75; (first | ((with_reducible refine (HM1.out _ _ _ _ _ _ _ (C1.below (bq_d _)).a (C2.below (bq_d _)).a).mono ?_); rintro e wa ⟨p7, A7, c7, l7, rfl, E7, hb⟩; have hq := bq (bq_d _) hb; replace t3 := t3.below hq t3.lt; replace t5 := t5.below hq t5.lt; replace t6 := t6.below hq t6.lt; replace C1 := C1.below hq; replace C2 := C2.below hq; replace bel := bel.trans (hq.mono bel.size); have zzt50 := t5.lt; have zzt60 := t6.lt; clear hb hq) | ((with_reducible refine (HM1.out _ _ _ _ _ _ _ (C1.below (bq_da _ _)).a (C2.below (bq_da _ _)).a).mono ?_); rintro e wa ⟨p7, A7, c7, l7, rfl, E7, hb⟩; have tN := ((Four.new_ _ (.bool false) (.slice none 0 0) (.bool false) (.slice none 0 0) 26).drew).below hb ((Four.new_ _ (.bool false) (.slice none 0 0) (.bool false) (.slice none 0 0) 26).drew).lt; have hq := bq (bq_da _ _) hb; replace t3 := t3.below hq t3.lt; replace t5 := t5.below hq t5.lt; replace t6 := t6.below hq t6.lt; replace C1 := C1.below hq; replace C2 := C2.below hq; replace bel := bel.trans (hq.mono bel.size); have zzt50 := t5.lt; have zzt60 := t6.lt; clear hb hq)))
        | (go_at_call 75; (first | ((with_reducible refine (HM2.out _ _ _ _ _ _ _ (C1.below (bq_r _)).b (C2.below (bq_r _)).b).mono ?_); rintro e wa ⟨p8, A8, c8, l8, rfl, E8, hb⟩; have hq := bq (bq_r _) hb; replace t3 := t3.below hq t3.lt; replace t5 := t5.below hq t5.lt; replace t6 := t6.below hq t6.lt; replace C1 := C1.below hq; replace C2 := C2.below hq; replace bel := bel.trans (hq.mono bel.size); replace E7 := E7.below hq; (try replace tN := tN.below hb tN.lt); have zzt51 := t5.lt; have zzt61 := t6.lt; clear hb hq) | ((with_reducible refine (HM2.out _ _ _ _ _ _ _ (C1.below (al1 _ _)).b (C2.below (al1 _ _)).b).mono ?_); rintro e wa ⟨p8, A8, c8, l8, rfl, E8, hb⟩; have tN := ((Four.new_ _ (.bool false) (.slice none 0 0) (.bool false) (.slice none 0 0) 26)).below hb ((Four.new_ _ (.bool false) (.slice none 0 0) (.bool false) (.slice none 0 0) 26)).lt; have hq := bq (al1 _ _) hb; replace t3 := t3.below hq t3.lt; replace t5 := t5.below hq t5.lt; replace t6 := t6.below hq t6.lt; replace C1 := C1.below hq; replace C2 := C2.below hq; replace bel := bel.trans (hq.mono bel.size); replace E7 := E7.below hq; have zzt51 := t5.lt; have zzt61 := t6.lt; clear hb hq)))
        | (go_at_call 33; (first | ((with_reducible refine (HNW.out _ _ _ _ _ _ _ _ _ (E7.below (bq_r _)) (E8.below (bq_r _))).mono ?_); rintro e wa ⟨A9, c9, l9, B9, d9, m9, rfl, CC, hb⟩; have hq := bq (bq_r _) hb; replace t3 := t3.below hq t3.lt; replace t5 := t5.below hq t5.lt; replace t6 := t6.below hq t6.lt; replace C1 := C1.below hq; replace C2 := C2.below hq; replace bel := bel.trans (hq.mono bel.size); replace E7 := E7.below hq; replace E8 := E8.below hq; (try replace tN := tN.below hb tN.lt); have zzt52 := t5.lt; have zzt62 := t6.lt; (try have n0 := tN.c0); (try have n1 := tN.c1); (try have m0 := tN.fr 0); (try have m1 := tN.fr 1); (try have n2 := tN.c2); (try have n3 := tN.c3); (try have m2 := tN.fr 2); (try have m3 := tN.fr 3); (try have hg := tN.lt); clear hb hq) | ((with_reducible refine (HNW.out _ _ _ _ _ _ _ _ _ (E7.below (al1 _ _)) (E8.below (al1 _ _))).mono ?_); rintro e wa ⟨A9, c9, l9, B9, d9, m9, rfl, CC, hb⟩; have tN := ((Four.new_ _ (.bool false) (.slice none 0 0) (.bool false) (.slice none 0 0) 26)).below hb ((Four.new_ _ (.bool false) (.slice none 0 0) (.bool false) (.slice none 0 0) 26)).lt; have hq := bq (al1 _ _) hb; replace t3 := t3.below hq t3.lt; replace t5 := t5.below hq t5.lt; replace t6 := t6.below hq t6.lt; replace C1 := C1.below hq; replace C2 := C2.below hq; replace bel := bel.trans (hq.mono bel.size); replace E7 := E7.below hq; replace E8 := E8.below hq; have zzt52 := t5.lt; have zzt62 := t6.lt; (try have n0 := tN.c0); (try have n1 := tN.c1); (try have m0 := tN.fr 0); (try have m1 := tN.fr 1); (try have n2 := tN.c2); (try have n3 := tN.c3); (try have m2 := tN.fr 2); (try have m3 := tN.fr 3); (try have hg := tN.lt); clear hb hq))))
    all_goals
      go_wp2_with fail
      go_meet
      first
        | exact ⟨⟨_, _, _, _, _, _, _, rfl, by omega, Four.new_ _ _ _ _ _ _, CC.alloc _⟩, t3.alloc _, bel.alloc bel.size _⟩
        | exact ⟨⟨_, _, _, _, _, _, _, rfl, by omega, tN.put _ _ _ _, CC.put4 tN _ _ _ _⟩, t3.far4 (by omega) _ _ _ _, below_set4 bel (by omega) _ _ _ _⟩
  case rest =>
    obtain ⟨⟨g9, A9, c9, l9, B9, d9, m9, rfl, hg9, t9, C9⟩, t3, bel⟩ := hcut
    have e0 := t9.c0
    have e1 := t9.c1
    have e2 := t9.c2
    have e3 := t9.c3
    have d0 := t3.c0
    have d1 := t3.c1
    have d2 := t3.c2
    have d3 := t3.c3
    have f0 := t3.fr 0
    have f1 := t3.fr 1
    have f2 := t3.fr 2
    have f3 := t3.fr 3
    have R := Lib.hid (t3.put (.bool (decide (z.num < 0))) (.slice A9 l9.length c9) (.bool false) (.slice B9 m9.length d9))
    have CR := Lib.hid (C9.put4 t3 (.bool (decide (z.num < 0))) (.slice A9 l9.length c9) (.bool false) (.slice B9 m9.length d9))
    have BL := Lib.hid (below_set4 bel (b := w.heap.size + 2) (by omega) (.bool (decide (z.num < 0))) (.slice A9 l9.length c9) (.bool false) (.slice B9 m9.length d9))
    clear t9 t3 C9 bel
    go_wp2_with fail
    have r0 := R.out.c0
    have r1 := R.out.c1
    have r2 := R.out.c2
    have r3 := R.out.c3
    unfold set4 at r0 r1 r2 r3
    refine bodyPost_ret (v := .agg #[.bool (decide (z.num < 0)), .slice A9 l9.length c9, .bool false, .slice B9 m9.length d9]) (by simp [results, Tryz.results82, go_sem, r0, r1, r2, r3]) rfl ?_
    exact ⟨A9, c9, l9, B9, d9, m9, rfl, CR.out, BL.out⟩
end Go.Proofs.YtkpomjdablopaaaGreatDoor
/- Walks of package rational: power of the reference. -/
namespace Go.Proofs.YtkpomjdablopaaaGreatDoor
open Go.RowKit
set_option linter.unusedVariables false

set_option maxRecDepth 100000 in
set_option maxHeartbeats 2000000 in
theorem rpower (k : Int) (hk : -200 ≤ k ∧ k ≤ 200) (w : World) :
    Calls Tryz.prog 44 #[.int .i64 k] w (GR (p2 k) 7 w) := by
  have HK := Lib.hid hk
  obtain ⟨z0, hz0⟩ : ∃ z, z = p2 0 := ⟨_, rfl⟩
  obtain ⟨zt, hzt⟩ : ∃ z, z = Rat.divInt 2 1 := ⟨_, rfl⟩
  obtain ⟨zh, hzh⟩ : ∃ z, z = Rat.divInt 1 2 := ⟨_, rfl⟩
  have HZ0 := Lib.hid hz0
  have HZT := Lib.hid hzt
  have HZH := Lib.hid hzh
  have HO1 : Hid (∀ W, Calls Tryz.prog 81 #[.int .i64 1, .int .i64 1] W (GRc z0 2 W)) := Lib.hid (fun W => by have h := grofr (a := 1) (b := 1) (by decide) (by decide) (by decide) W; rw [hz0]; exact h)
  have HO2 : Hid (∀ W, Calls Tryz.prog 81 #[.int .i64 2, .int .i64 1] W (GRc zt 2 W)) := Lib.hid (fun W => by have h := grofr (a := 2) (b := 1) (by decide) (by decide) (by decide) W; rw [hzt]; exact h)
  have HO3 : Hid (∀ W, Calls Tryz.prog 81 #[.int .i64 1, .int .i64 2] W (GRc zh 2 W)) := Lib.hid (fun W => by have h := grofr (a := 1) (b := 2) (by decide) (by decide) (by decide) W; rw [hzh]; exact h)
  clear hz0 hzt hzh hk
  go_enter Tryz.func44, Tryz.ntmps44
  go_wp2_with fail
  have t1 : Four (w.alloc (.cells #[.bool false, .slice none 0 0, .bool false, .slice none 0 0] 26)) w.heap.size (.bool false) (.slice none 0 0) (.bool false) (.slice none 0 0) := Four.new_ w (.bool false) (.slice none 0 0) (.bool false) (.slice none 0 0) 26
  have bel : Below w.heap.size w (w.alloc (.cells #[.bool false, .slice none 0 0, .bool false, .slice none 0 0] 26)) := (Below.refl _ _).alloc (Nat.le_refl _) _
  generalize (w.alloc (.cells #[.bool false, .slice none 0 0, .bool false, .slice none 0 0] 26)) = wx at t1 bel ⊢
  refine (HO1.out _).mono ?_
  rintro e w2 ⟨A2, c2, l2, B2, d2, m2, rfl, E2, hb⟩
  replace t1 := t1.below hb t1.lt
  replace bel := bel.trans (hb.mono bel.size)
  clear hb
  go_upto_region 2 with (fail)
  have hg2 : w.heap.size < w2.heap.size := t1.lt
  have t2 : Four (w2.alloc (.cells #[.bool (decide (z0.num < 0)), .slice A2 l2.length c2, .bool false, .slice B2 m2.length d2] 26)) w2.heap.size (.bool (decide (z0.num < 0))) (.slice A2 l2.length c2) (.bool false) (.slice B2 m2.length d2) := Four.new_ w2 (.bool (decide (z0.num < 0))) (.slice A2 l2.length c2) (.bool false) (.slice B2 m2.length d2) 26
  have bn : Below w2.heap.size w2 (w2.alloc (.cells #[.bool (decide (z0.num < 0)), .slice A2 l2.length c2, .bool false, .slice B2 m2.length d2] 26)) := (Below.refl _ _).alloc (Nat.le_refl _) _
  replace t1 := t1.below bn t1.lt
  replace bel := bel.trans (bn.mono bel.size)
  replace E2 := E2.below bn
  clear bn
  generalize (w2.alloc (.cells #[.bool (decide (z0.num < 0)), .slice A2 l2.length c2, .bool false, .slice B2 m2.length d2] 26)) = v1 at t1 bel E2 t2 ⊢
  generalize w2.heap.size = g2 at t1 bel E2 t2 hg2 ⊢
  go_wp2_with fail
  refine (HO2.out _).mono ?_
  rintro e w3 ⟨A3, c3, l3, B3, d3, m3, rfl, E3, hb⟩
  replace t1 := t1.below hb t1.lt
  replace bel := bel.trans (hb.mono bel.size)
  replace E2 := E2.below hb
  replace t2 := t2.below hb t2.lt
  clear hb
  go_upto_region 3 with (fail)
  have hg3 : g2 < w3.heap.size := t2.lt
  have t3 : Four (w3.alloc (.cells #[.bool (decide (zt.num < 0)), .slice A3 l3.length c3, .bool false, .slice B3 m3.length d3] 26)) w3.heap.size (.bool (decide (zt.num < 0))) (.slice A3 l3.length c3) (.bool false) (.slice B3 m3.length d3) := Four.new_ w3 (.bool (decide (zt.num < 0))) (.slice A3 l3.length c3) (.bool false) (.slice B3 m3.length d3) 26
  have bn : Below w3.heap.size w3 (w3.alloc (.cells #[.bool (decide (zt.num < 0)), .slice A3 l3.length c3, .bool false, .slice B3 m3.length d3] 26)) := (Below.refl _ _).alloc (Nat.le_refl _) _
  replace t1 := t1.below bn t1.lt
  replace bel := bel.trans (bn.mono bel.size)
  replace E2 := E2.below bn
  replace t2 := t2.below bn t2.lt
  replace E3 := E3.below bn
  clear bn
  generalize (w3.alloc (.cells #[.bool (decide (zt.num < 0)), .slice A3 l3.length c3, .bool false, .slice B3 m3.length d3] 26)) = v2 at t1 bel E2 t2 E3 t3 ⊢
  generalize w3.heap.size = g3 at t1 bel E2 t2 E3 t3 hg3 ⊢
  go_wp2_with fail
  refine (HO3.out _).mono ?_
  rintro e w4 ⟨A4, c4, l4, B4, d4, m4, rfl, E4, hb⟩
  replace t1 := t1.below hb t1.lt
  replace bel := bel.trans (hb.mono bel.size)
  replace E2 := E2.below hb
  replace t2 := t2.below hb t2.lt
  replace E3 := E3.below hb
  replace t3 := t3.below hb t3.lt
  clear hb
  go_upto_region 4 with (fail)
  have hg4 : g3 < w4.heap.size := t3.lt
  have t4 : Four (w4.alloc (.cells #[.bool (decide (zh.num < 0)), .slice A4 l4.length c4, .bool false, .slice B4 m4.length d4] 26)) w4.heap.size (.bool (decide (zh.num < 0))) (.slice A4 l4.length c4) (.bool false) (.slice B4 m4.length d4) := Four.new_ w4 (.bool (decide (zh.num < 0))) (.slice A4 l4.length c4) (.bool false) (.slice B4 m4.length d4) 26
  have bn : Below w4.heap.size w4 (w4.alloc (.cells #[.bool (decide (zh.num < 0)), .slice A4 l4.length c4, .bool false, .slice B4 m4.length d4] 26)) := (Below.refl _ _).alloc (Nat.le_refl _) _
  replace t1 := t1.below bn t1.lt
  replace bel := bel.trans (bn.mono bel.size)
  replace E2 := E2.below bn
  replace t2 := t2.below bn t2.lt
  replace E3 := E3.below bn
  replace t3 := t3.below bn t3.lt
  replace E4 := E4.below bn
  clear bn
  generalize (w4.alloc (.cells #[.bool (decide (zh.num < 0)), .slice A4 l4.length c4, .bool false, .slice B4 m4.length d4] 26)) = v3 at t1 bel E2 t2 E3 t3 E4 t4 ⊢
  generalize w4.heap.size = g4 at t1 bel E2 t2 E3 t3 E4 t4 hg4 ⊢
  replace E2 : Cr _ A2 c2 l2 B2 d2 m2 z0 7 := E2.more_ (by decide)
  have hs2 := hg2
  have hs3 := hg3
  have hs4 := hg4
  go_wp2_with fail
  go_loopw [9] (fun iv wr => ∃ (j : Nat) (z : Rat) (Aa : Option Addr) (ca : Nat) (la : List Nat) (Ba : Option Addr) (da : Nat) (ma : List Nat), (j : Int) ≤ k.toNat ∧ iv = .int .i64 (j : Int) ∧ Hid (z = p2 (j : Int)) ∧ Four wr w.heap.size (.bool false) (.slice none 0 0) (.bool false) (.slice none 0 0) ∧ Four wr g2 (.bool (decide (z.num < 0))) (.slice Aa la.length ca) (.bool false) (.slice Ba ma.length da) ∧ Four wr g3 (.bool (decide (zt.num < 0))) (.slice A3 l3.length c3) (.bool false) (.slice B3 m3.length d3) ∧ Four wr g4 (.bool (decide (zh.num < 0))) (.slice A4 l4.length c4) (.bool false) (.slice B4 m4.length d4) ∧ Cr wr Aa ca la Ba da ma z 7 ∧ Cr wr A3 c3 l3 B3 d3 m3 zt 2 ∧ Cr wr A4 c4 l4 B4 d4 m4 zh 2 ∧ Below w.heap.size w wr) (fun iv _ => k.toNat - (intOf iv).toNat)
  case atStart => exact ⟨0, z0, _, _, _, _, _, _, by omega, rfl, HZ0, t1, t2, t3, t4, E2, E3, E4, bel⟩
  case round =>
    clear t1 t2 t3 t4 E2 E3 E4 bel
    obtain ⟨j, z, Aa, ca, la, Ba, da, ma, hj, rfl, hz, t1, t2, t3, t4, E2, E3, E4, bel⟩ := hrel
    by_cases hlt : (j : Int) < k
    · obtain ⟨z9, hz9⟩ : ∃ z9, Hid (z * zt = z9) := ⟨_, Lib.hid rfl⟩
      have HS2 : Hid (z9 = p2 ((j + 1 : Nat) : Int)) := Lib.hid (by rw [← hz9.out, hz.out, HZT.out]; exact p2_up j)
      have HRG : Hid (-200 ≤ ((j + 1 : Nat) : Int) ∧ ((j + 1 : Nat) : Int) ≤ 200) := Lib.hid (by have := HK.out; omega)
      have HMU := Lib.hid (fun (h : Cr wr Aa ca la Ba da ma z 7) (h' : Cr wr A3 c3 l3 B3 d3 m3 zt 2) => (by have h := rrmul h.rv h'.rv (by decide) (by decide) (by decide) (by decide); rw [hz9.out, HS2.out] at h; have h := h.mono (fun _ _ h => h.re7 HRG.out); rw [← HS2.out] at h; exact h : Calls Tryz.prog 82 #[.agg #[.bool (decide (z.num < 0)), .slice Aa la.length ca, .bool false, .slice Ba ma.length da], .agg #[.bool (decide (zt.num < 0)), .slice A3 l3.length c3, .bool false, .slice B3 m3.length d3]] wr (GR z9 7 wr)))
      have HJ := Lib.hid (show j + 1 ≤ k.toNat by omega)
      have hwk : IntKind.i64.wrap ((j : Int) + 1) = ((j + 1 : Nat) : Int) := (IntWalk.i64_in _ (by have := HK.out; omega)).trans (by omega)
      clear hz9
      have t2_0 := t2.c0
      have t2_1 := t2.c1
      have t2_2 := t2.c2
      have t2_3 := t2.c3
      have t3_0 := t3.c0
      have t3_1 := t3.c1
      have t3_2 := t3.c2
      have t3_3 := t3.c3
      go_wp2_with fail
      refine (HMU.out E2 E3).mono ?_
      rintro e w9 ⟨A6, c6, l6, B6, d6, m6, rfl, E6, hb⟩
      clear E2
      clear t2_0 t2_1 t2_2 t2_3 t3_0 t3_1 t3_2 t3_3
      clear HMU
      replace t1 := t1.below hb t1.lt
      replace t2 := t2.below hb t2.lt
      replace t3 := t3.below hb t3.lt
      replace t4 := t4.below hb t4.lt
      replace E3 := E3.below hb
      replace E4 := E4.below hb
      replace bel := bel.trans (hb.mono bel.size)
      have d0 := t2.c0
      have d1 := t2.c1
      have d2 := t2.c2
      have d3 := t2.c3
      have f0 := t2.fr 0
      have f1 := t2.fr 1
      have f2 := t2.fr 2
      have f3 := t2.fr 3
      have R1 := Lib.hid (t1.far4 (g := g2) (by omega) (.bool (decide (z9.num < 0))) (.slice A6 l6.length c6) (.bool false) (.slice B6 m6.length d6))
      have R2 := Lib.hid (t2.put (.bool (decide (z9.num < 0))) (.slice A6 l6.length c6) (.bool false) (.slice B6 m6.length d6))
      have R3 := Lib.hid (t3.far4 (g := g2) (by omega) (.bool (decide (z9.num < 0))) (.slice A6 l6.length c6) (.bool false) (.slice B6 m6.length d6))
      have R4 := Lib.hid (t4.far4 (g := g2) (by omega) (.bool (decide (z9.num < 0))) (.slice A6 l6.length c6) (.bool false) (.slice B6 m6.length d6))
      have R5 := Lib.hid (E6.put4 t2 (.bool (decide (z9.num < 0))) (.slice A6 l6.length c6) (.bool false) (.slice B6 m6.length d6))
      have R6 := Lib.hid (E3.put4 t2 (.bool (decide (z9.num < 0))) (.slice A6 l6.length c6) (.bool false) (.slice B6 m6.length d6))
      have R7 := Lib.hid (E4.put4 t2 (.bool (decide (z9.num < 0))) (.slice A6 l6.length c6) (.bool false) (.slice B6 m6.length d6))
      have R8 := Lib.hid (below_set4 bel (b := g2) (by omega) (.bool (decide (z9.num < 0))) (.slice A6 l6.length c6) (.bool false) (.slice B6 m6.length d6))
      clear t1 t2 t3 t4 E6 E3 E4 bel hb
      go_wp2_with fail
      go_roundw
      case rel => exact ⟨j + 1, z9, _, _, _, _, _, _, by have := HJ.out; omega, by first | go_num | rfl, HS2, R1.out, R2.out, R3.out, R4.out, R5.out, R6.out, R7.out, R8.out⟩
      case measure => (have := HJ.out; first | (simp [intOf]; omega) | (simp [intOf, hwk]; omega))
    · have hj2 : j = k.toNat := by omega
      clear hj hlt
      have c1 : ¬ (j : Int) < k := by omega
      have HZ2 : Hid (z = p2 ((k.toNat : Nat) : Int)) := Lib.hid (by rw [hz.out, hj2])
      have hwn : IntKind.i64.wrap (-k) = -k := (IntWalk.i64_in _ (by have := HK.out; omega))
      clear hz hj2
      go_wp2_with fail
      clear c1
      go_loopw [10] (fun iv wr => ∃ (j : Nat) (z : Rat) (Aa : Option Addr) (ca : Nat) (la : List Nat) (Ba : Option Addr) (da : Nat) (ma : List Nat), (j : Int) ≤ (-k).toNat ∧ iv = .int .i64 (j : Int) ∧ Hid (z = p2 (((k.toNat : Nat) : Int) - (j : Int))) ∧ Four wr w.heap.size (.bool false) (.slice none 0 0) (.bool false) (.slice none 0 0) ∧ Four wr g2 (.bool (decide (z.num < 0))) (.slice Aa la.length ca) (.bool false) (.slice Ba ma.length da) ∧ Four wr g3 (.bool (decide (zt.num < 0))) (.slice A3 l3.length c3) (.bool false) (.slice B3 m3.length d3) ∧ Four wr g4 (.bool (decide (zh.num < 0))) (.slice A4 l4.length c4) (.bool false) (.slice B4 m4.length d4) ∧ Cr wr Aa ca la Ba da ma z 7 ∧ Cr wr A3 c3 l3 B3 d3 m3 zt 2 ∧ Cr wr A4 c4 l4 B4 d4 m4 zh 2 ∧ Below w.heap.size w wr) (fun iv _ => (-k).toNat - (intOf iv).toNat)
      case atStart => exact ⟨0, z, _, _, _, _, _, _, by omega, rfl, Lib.hid (by rw [HZ2.out]; rfl), t1, t2, t3, t4, E2, E3, E4, bel⟩
      case round =>
        clear t1 t2 t3 t4 E2 E3 E4 bel HZ2
        obtain ⟨j, z, Aa, ca, la, Ba, da, ma, hj, rfl, hz, t1, t2, t3, t4, E2, E3, E4, bel⟩ := hrel
        by_cases hlt : (j : Int) < -k
        · obtain ⟨z9, hz9⟩ : ∃ z9, Hid (z * zh = z9) := ⟨_, Lib.hid rfl⟩
          have HS2 : Hid (z9 = p2 (((k.toNat : Nat) : Int) - ((j + 1 : Nat) : Int))) := Lib.hid (by
            have h0 : k.toNat = 0 := by omega
            rw [← hz9.out, hz.out, HZH.out, h0]
            have h := p2_dn j
            rwa [show -(j : Int) = ((0 : Nat) : Int) - (j : Int) by omega, show -((j + 1 : Nat) : Int) = ((0 : Nat) : Int) - ((j + 1 : Nat) : Int) by omega] at h)
          have HRG : Hid (-200 ≤ ((k.toNat : Nat) : Int) - ((j + 1 : Nat) : Int) ∧ ((k.toNat : Nat) : Int) - ((j + 1 : Nat) : Int) ≤ 200) := Lib.hid (by have := HK.out; omega)
          have HMU := Lib.hid (fun (h : Cr wr Aa ca la Ba da ma z 7) (h' : Cr wr A4 c4 l4 B4 d4 m4 zh 2) => (by have h := rrmul h.rv h'.rv (by decide) (by decide) (by decide) (by decide); rw [hz9.out, HS2.out] at h; have h := h.mono (fun _ _ h => h.re7 HRG.out); rw [← HS2.out] at h; exact h : Calls Tryz.prog 82 #[.agg #[.bool (decide (z.num < 0)), .slice Aa la.length ca, .bool false, .slice Ba ma.length da], .agg #[.bool (decide (zh.num < 0)), .slice A4 l4.length c4, .bool false, .slice B4 m4.length d4]] wr (GR z9 7 wr)))
          have HJ := Lib.hid (show j + 1 ≤ (-k).toNat by omega)
          have hwk : IntKind.i64.wrap ((j : Int) + 1) = ((j + 1 : Nat) : Int) := (IntWalk.i64_in _ (by have := HK.out; omega)).trans (by omega)
          clear hz9
          have t2_0 := t2.c0
          have t2_1 := t2.c1
          have t2_2 := t2.c2
          have t2_3 := t2.c3
          have t4_0 := t4.c0
          have t4_1 := t4.c1
          have t4_2 := t4.c2
          have t4_3 := t4.c3
          go_wp2_with fail
          refine (HMU.out E2 E4).mono ?_
          rintro e w9 ⟨A6, c6, l6, B6, d6, m6, rfl, E6, hb⟩
          clear E2
          clear t2_0 t2_1 t2_2 t2_3 t4_0 t4_1 t4_2 t4_3
          clear HMU
          replace t1 := t1.below hb t1.lt
          replace t2 := t2.below hb t2.lt
          replace t3 := t3.below hb t3.lt
          replace t4 := t4.below hb t4.lt
          replace E3 := E3.below hb
          replace E4 := E4.below hb
          replace bel := bel.trans (hb.mono bel.size)
          have d0 := t2.c0
          have d1 := t2.c1
          have d2 := t2.c2
          have d3 := t2.c3
          have f0 := t2.fr 0
          have f1 := t2.fr 1
          have f2 := t2.fr 2
          have f3 := t2.fr 3
          have R1 := Lib.hid (t1.far4 (g := g2) (by omega) (.bool (decide (z9.num < 0))) (.slice A6 l6.length c6) (.bool false) (.slice B6 m6.length d6))
          have R2 := Lib.hid (t2.put (.bool (decide (z9.num < 0))) (.slice A6 l6.length c6) (.bool false) (.slice B6 m6.length d6))
          have R3 := Lib.hid (t3.far4 (g := g2) (by omega) (.bool (decide (z9.num < 0))) (.slice A6 l6.length c6) (.bool false) (.slice B6 m6.length d6))
          have R4 := Lib.hid (t4.far4 (g := g2) (by omega) (.bool (decide (z9.num < 0))) (.slice A6 l6.length c6) (.bool false) (.slice B6 m6.length d6))
          have R5 := Lib.hid (E6.put4 t2 (.bool (decide (z9.num < 0))) (.slice A6 l6.length c6) (.bool false) (.slice B6 m6.length d6))
          have R6 := Lib.hid (E3.put4 t2 (.bool (decide (z9.num < 0))) (.slice A6 l6.length c6) (.bool false) (.slice B6 m6.length d6))
          have R7 := Lib.hid (E4.put4 t2 (.bool (decide (z9.num < 0))) (.slice A6 l6.length c6) (.bool false) (.slice B6 m6.length d6))
          have R8 := Lib.hid (below_set4 bel (b := g2) (by omega) (.bool (decide (z9.num < 0))) (.slice A6 l6.length c6) (.bool false) (.slice B6 m6.length d6))
          clear t1 t2 t3 t4 E6 E3 E4 bel hb
          go_wp2_with fail
          go_roundw
          case rel => exact ⟨j + 1, z9, _, _, _, _, _, _, by have := HJ.out; omega, by first | go_num | rfl, HS2, R1.out, R2.out, R3.out, R4.out, R5.out, R6.out, R7.out, R8.out⟩
          case measure => (have := HJ.out; first | (simp [intOf]; omega) | (simp [intOf, hwk]; omega))
        · have c1 : ¬ (j : Int) < -k := hlt
          have hz8 : z = p2 k := by
            rw [hz.out]; congr 1; omega
          clear hz hj hlt
          subst hz8
          have t2_0 := t2.c0
          have t2_1 := t2.c1
          have t2_2 := t2.c2
          have t2_3 := t2.c3
          have d0 := t1.c0
          have d1 := t1.c1
          have d2 := t1.c2
          have d3 := t1.c3
          have f0 := t1.fr 0
          have f1 := t1.fr 1
          have f2 := t1.fr 2
          have f3 := t1.fr 3
          have R := Lib.hid (t1.put (.bool (decide ((p2 k).num < 0))) (.slice Aa la.length ca) (.bool false) (.slice Ba ma.length da))
          have CR := Lib.hid (E2.put4 t1 (.bool (decide ((p2 k).num < 0))) (.slice Aa la.length ca) (.bool false) (.slice Ba ma.length da))
          have BL := Lib.hid (below_set4 bel (b := w.heap.size) (by omega) (.bool (decide ((p2 k).num < 0))) (.slice Aa la.length ca) (.bool false) (.slice Ba ma.length da))
          clear t1 t2 t3 t4 E2 E3 E4 bel
          go_wp2_with fail
          have r0 := R.out.c0
          have r1 := R.out.c1
          have r2 := R.out.c2
          have r3 := R.out.c3
          unfold set4 at r0 r1 r2 r3
          refine bodyPost_ret (v := .agg #[.bool (decide ((p2 k).num < 0)), .slice Aa la.length ca, .bool false, .slice Ba ma.length da]) (by simp [results, Tryz.results44, go_sem, r0, r1, r2, r3]) rfl ?_
          exact ⟨_, _, _, _, _, _, rfl, CR.out, BL.out⟩
end Go.Proofs.YtkpomjdablopaaaGreatDoor
