/- My texts, packed: V1, LawClean. -/
import Derived.Test.YtpfaddgcfacgdaaGreatDoorPk13
import Derived.Test.YtpfaddgcfacgdaaGreatDoorPk14
import Derived.Test.YtpfaddgcfacgdaaGreatDoorPl1
import Derived.Test.YtpfaddgcfacgdaaGreatDoorPk15
/- Walks of package rational: Valid. -/
namespace Go.Proofs.YtpfaddgcfacgdaaGreatDoor
open Go.RowKit
set_option linter.unusedVariables false

theorem vld_iff {p : Bool} {l : List Nat} (hw : Kn.Wd l) : vld p l = true ↔ (p = decide (Kn.iv p l < 0) ∧ l = Kn.dig (Kn.iv p l).natAbs) := by
  rw [Kn.iv_natAbs]
  unfold vld
  by_cases h0 : l.length = 0
  · have e : l = [] := List.eq_nil_of_length_eq_zero h0
    subst e
    rw [if_pos h0]
    have e1 : Kn.val ([] : List Nat) = 0 := rfl
    have e2 : decide (Kn.iv p [] < 0) = false := by cases p <;> rfl
    rw [e1, Kn.dig_zero, e2]
    cases p <;> simp
  · rw [if_neg h0]
    constructor
    · intro h
      have hl : l.getD (l.length - 1) 0 ≠ 0 := by simpa using h
      have hd := Kn.canon hw (.inr hl)
      have hp : 0 < Kn.val l := by
        have := Kn.dig_len_pos (n := Kn.val l)
        rw [← hd] at this
        omega
      refine ⟨?_, hd⟩
      cases p
      · have : ¬ Kn.iv false l < 0 := by show ¬ (Kn.val l : Int) < 0; omega
        rw [decide_eq_false this]
      · have : Kn.iv true l < 0 := by show -(Kn.val l : Int) < 0; omega
        rw [decide_eq_true this]
    · rintro ⟨_, hd⟩
      have hp : 0 < Kn.val l := by
        have := Kn.dig_len_pos (n := Kn.val l)
        rw [← hd] at this
        omega
      have := Kn.dig_last hp
      rw [← hd] at this
      simpa using this
/-- is a fraction written in its canonical form? -/
def canR (p : Bool) (l : List Nat) (q : Bool) (m : List Nat) (z : Rat) : Prop := (p = decide (z.num < 0) ∧ l = Kn.dig z.num.natAbs) ∧ (q = false ∧ m = Kn.dig (z.den : Int).natAbs)
instance (p : Bool) (l : List Nat) (q : Bool) (m : List Nat) (z : Rat) : Decidable (canR p l q m z) := by unfold canR; infer_instance
theorem canR_iff {p q : Bool} {l m : List Nat} (hl : Kn.Wd l) (hm : Kn.Wd m) : canR p l q m (Rat.divInt (Kn.iv p l) (Kn.iv q m)) ↔ (vld p l = true ∧ vld q m = true ∧ 0 < Kn.iv q m ∧ Nat.gcd (Kn.iv p l).natAbs (Kn.iv q m).natAbs = 1) := by
  constructor
  · rintro ⟨⟨e1, e2⟩, e3, e4⟩
    obtain ⟨z, hz⟩ : ∃ z, z = Rat.divInt (Kn.iv p l) (Kn.iv q m) := ⟨_, rfl⟩
    rw [← hz] at e1 e2 e4
    have x1 : Kn.iv p l = z.num := by rw [e1, e2, Kn.iv_dig]
    have y1 : Kn.iv q m = (z.den : Int) := by
      have := Kn.iv_dig (z.den : Int)
      rw [decide_eq_false (show ¬ (z.den : Int) < 0 by omega)] at this
      rw [e3, e4]; exact this
    have hd := rq_den_pos z
    refine ⟨(vld_iff hl).2 ?_, (vld_iff hm).2 ?_, by rw [y1]; exact hd, ?_⟩
    · rw [x1]; exact ⟨e1, e2⟩
    · rw [y1, decide_eq_false (show ¬ (z.den : Int) < 0 by omega)]; exact ⟨e3, e4⟩
    · rw [x1, y1, Int.natAbs_natCast]; exact z.reduced
  · rintro ⟨h1, h2, h3, h4⟩
    have a1 := (vld_iff hl).1 h1
    have a2 := (vld_iff hm).1 h2
    have hp := rq_parts (n := Kn.iv p l) h3
    rw [h4] at hp
    have e1 : (Rat.divInt (Kn.iv p l) (Kn.iv q m)).num = Kn.iv p l := by rw [hp.1]; exact Int.fdiv_one _
    have e2 : ((Rat.divInt (Kn.iv p l) (Kn.iv q m)).den : Int) = Kn.iv q m := by rw [hp.2]; exact Int.fdiv_one _
    refine ⟨by rw [e1]; exact a1, ?_⟩
    rw [e2]
    refine ⟨?_, a2.2⟩
    rw [a2.1, decide_eq_false (by omega)]

set_option maxRecDepth 100000 in
set_option maxHeartbeats 1500000 in
theorem valid_1 {x y : Int} {n : Nat} {p : Bool} {A : Option Addr} {c : Nat} {l : List Nat} {q : Bool} {B : Option Addr} {d : Nat} {m : List Nat} {w : World} (h1 : Iv w p A c l x n) (h2 : Iv w q B d m y n) (hn : n ≤ 100) (v1 : vld p l = false) :
    Calls Tryz.prog 16 #[ratV p A l.length c q B m.length d] w fun e w' => e = .returned (.bool false) ∧ Below w.heap.size w w' := by
  have HV1 := Lib.hid (fun (W : World) (h : Iv W p A c l x n) => (by have h := valid_any p A c l W h.sl (by have := h.len; omega); rw [v1] at h; exact h : Calls Tryz.prog 51 #[.agg #[.bool p, .slice A l.length c]] W fun e w' => e = .returned (.bool false) ∧ Below W.heap.size W w'))
  clear hn v1
  unfold ratV
  go_enter Tryz.func16, Tryz.ntmps16
  go_wp2_with fail
  have t1 : Four (w.alloc (.cells #[.bool p, .slice A l.length c, .bool q, .slice B m.length d] 26)) w.heap.size (.bool p) (.slice A l.length c) (.bool q) (.slice B m.length d) := Four.new_ w (.bool p) (.slice A l.length c) (.bool q) (.slice B m.length d) 26
  have bel : Below w.heap.size w (w.alloc (.cells #[.bool p, .slice A l.length c, .bool q, .slice B m.length d] 26)) := (Below.refl _ _).alloc (Nat.le_refl _) _
  generalize (w.alloc (.cells #[.bool p, .slice A l.length c, .bool q, .slice B m.length d] 26)) = wx at t1 bel ⊢
  have X := h1.below bel
  have Y := h2.below bel
  have t1_0 := t1.c0
  have t1_1 := t1.c1
  have t1_2 := t1.c2
  have t1_3 := t1.c3
  go_wp2_with fail
  refine (HV1.out _ X).mono ?_
  rintro e w2 ⟨rfl, hb⟩
  clear t1_0 t1_1 t1_2 t1_3
  replace t1 := t1.below hb t1.lt
  replace bel := bel.trans (hb.mono bel.size)
  replace X := X.below hb
  replace Y := Y.below hb
  clear hb
  go_wp2_with fail
  go_ret
  exact ⟨rfl, bel⟩

set_option maxRecDepth 100000 in
set_option maxHeartbeats 1500000 in
theorem valid_2 {x y : Int} {n : Nat} {p : Bool} {A : Option Addr} {c : Nat} {l : List Nat} {q : Bool} {B : Option Addr} {d : Nat} {m : List Nat} {w : World} (h1 : Iv w p A c l x n) (h2 : Iv w q B d m y n) (hn : n ≤ 100) (v1 : vld p l = true) (v2 : vld q m = false) :
    Calls Tryz.prog 16 #[ratV p A l.length c q B m.length d] w fun e w' => e = .returned (.bool false) ∧ Below w.heap.size w w' := by
  have HV1 := Lib.hid (fun (W : World) (h : Iv W p A c l x n) => (by have h := valid_any p A c l W h.sl (by have := h.len; omega); rw [v1] at h; exact h : Calls Tryz.prog 51 #[.agg #[.bool p, .slice A l.length c]] W fun e w' => e = .returned (.bool true) ∧ Below W.heap.size W w'))
  have HV2 := Lib.hid (fun (W : World) (h : Iv W q B d m y n) => (by have h := valid_any q B d m W h.sl (by have := h.len; omega); rw [v2] at h; exact h : Calls Tryz.prog 51 #[.agg #[.bool q, .slice B m.length d]] W fun e w' => e = .returned (.bool false) ∧ Below W.heap.size W w'))
  clear hn v1 v2
  unfold ratV
  go_enter Tryz.func16, Tryz.ntmps16
  go_wp2_with fail
  have t1 : Four (w.alloc (.cells #[.bool p, .slice A l.length c, .bool q, .slice B m.length d] 26)) w.heap.size (.bool p) (.slice A l.length c) (.bool q) (.slice B m.length d) := Four.new_ w (.bool p) (.slice A l.length c) (.bool q) (.slice B m.length d) 26
  have bel : Below w.heap.size w (w.alloc (.cells #[.bool p, .slice A l.length c, .bool q, .slice B m.length d] 26)) := (Below.refl _ _).alloc (Nat.le_refl _) _
  generalize (w.alloc (.cells #[.bool p, .slice A l.length c, .bool q, .slice B m.length d] 26)) = wx at t1 bel ⊢
  have X := h1.below bel
  have Y := h2.below bel
  have t1_0 := t1.c0
  have t1_1 := t1.c1
  have t1_2 := t1.c2
  have t1_3 := t1.c3
  go_wp2_with fail
  refine (HV1.out _ X).mono ?_
  rintro e w2 ⟨rfl, hb⟩
  clear t1_0 t1_1 t1_2 t1_3
  replace t1 := t1.below hb t1.lt
  replace bel := bel.trans (hb.mono bel.size)
  replace X := X.below hb
  replace Y := Y.below hb
  clear hb
  have t1_0 := t1.c0
  have t1_1 := t1.c1
  have t1_2 := t1.c2
  have t1_3 := t1.c3
  go_wp2_with fail
  refine (HV2.out _ Y).mono ?_
  rintro e w3 ⟨rfl, hb⟩
  clear t1_0 t1_1 t1_2 t1_3
  replace t1 := t1.below hb t1.lt
  replace bel := bel.trans (hb.mono bel.size)
  replace X := X.below hb
  replace Y := Y.below hb
  clear hb
  go_wp2_with fail
  go_ret
  exact ⟨rfl, bel⟩

set_option maxRecDepth 100000 in
set_option maxHeartbeats 1500000 in
theorem valid_3 {x y : Int} {n : Nat} {p : Bool} {A : Option Addr} {c : Nat} {l : List Nat} {q : Bool} {B : Option Addr} {d : Nat} {m : List Nat} {w : World} (h1 : Iv w p A c l x n) (h2 : Iv w q B d m y n) (hn : n ≤ 100) (v1 : vld p l = true) (v2 : vld q m = true) (v3 : ¬ 0 < y) :
    Calls Tryz.prog 16 #[ratV p A l.length c q B m.length d] w fun e w' => e = .returned (.bool false) ∧ Below w.heap.size w w' := by
  have HV1 := Lib.hid (fun (W : World) (h : Iv W p A c l x n) => (by have h := valid_any p A c l W h.sl (by have := h.len; omega); rw [v1] at h; exact h : Calls Tryz.prog 51 #[.agg #[.bool p, .slice A l.length c]] W fun e w' => e = .returned (.bool true) ∧ Below W.heap.size W w'))
  have HV2 := Lib.hid (fun (W : World) (h : Iv W q B d m y n) => (by have h := valid_any q B d m W h.sl (by have := h.len; omega); rw [v2] at h; exact h : Calls Tryz.prog 51 #[.agg #[.bool q, .slice B m.length d]] W fun e w' => e = .returned (.bool true) ∧ Below W.heap.size W w'))
  obtain ⟨s, hs⟩ : ∃ s, s = y.sign := ⟨_, rfl⟩
  have HSG := Lib.hid (fun (W : World) (h : Iv W q B d m y n) => (by have h := gsign h (by omega); rw [← hs] at h; exact h : Calls Tryz.prog 52 #[.agg #[.bool q, .slice B m.length d]] W fun e w' => e = .returned (.int .i64 s) ∧ Below W.heap.size W w'))
  have s1 : ¬ 0 < s := by rw [hs]; exact fun h => v3 (Int.sign_pos_iff.1 h)
  have s2 : decide (0 < s) = false := decide_eq_false s1
  clear hs
  clear hn v1 v2 v3
  unfold ratV
  go_enter Tryz.func16, Tryz.ntmps16
  go_wp2_with fail
  have t1 : Four (w.alloc (.cells #[.bool p, .slice A l.length c, .bool q, .slice B m.length d] 26)) w.heap.size (.bool p) (.slice A l.length c) (.bool q) (.slice B m.length d) := Four.new_ w (.bool p) (.slice A l.length c) (.bool q) (.slice B m.length d) 26
  have bel : Below w.heap.size w (w.alloc (.cells #[.bool p, .slice A l.length c, .bool q, .slice B m.length d] 26)) := (Below.refl _ _).alloc (Nat.le_refl _) _
  generalize (w.alloc (.cells #[.bool p, .slice A l.length c, .bool q, .slice B m.length d] 26)) = wx at t1 bel ⊢
  have X := h1.below bel
  have Y := h2.below bel
  have t1_0 := t1.c0
  have t1_1 := t1.c1
  have t1_2 := t1.c2
  have t1_3 := t1.c3
  go_wp2_with fail
  refine (HV1.out _ X).mono ?_
  rintro e w2 ⟨rfl, hb⟩
  clear t1_0 t1_1 t1_2 t1_3
  replace t1 := t1.below hb t1.lt
  replace bel := bel.trans (hb.mono bel.size)
  replace X := X.below hb
  replace Y := Y.below hb
  clear hb
  have t1_0 := t1.c0
  have t1_1 := t1.c1
  have t1_2 := t1.c2
  have t1_3 := t1.c3
  go_wp2_with fail
  refine (HV2.out _ Y).mono ?_
  rintro e w3 ⟨rfl, hb⟩
  clear t1_0 t1_1 t1_2 t1_3
  replace t1 := t1.below hb t1.lt
  replace bel := bel.trans (hb.mono bel.size)
  replace X := X.below hb
  replace Y := Y.below hb
  clear hb
  have t1_0 := t1.c0
  have t1_1 := t1.c1
  have t1_2 := t1.c2
  have t1_3 := t1.c3
  go_wp2_with fail
  refine (HSG.out _ Y).mono ?_
  rintro e w4 ⟨rfl, hb⟩
  clear t1_0 t1_1 t1_2 t1_3
  replace t1 := t1.below hb t1.lt
  replace bel := bel.trans (hb.mono bel.size)
  replace X := X.below hb
  replace Y := Y.below hb
  clear hb
  go_wp2_with fail
  go_ret
  exact ⟨rfl, bel⟩

set_option maxRecDepth 100000 in
set_option maxHeartbeats 1500000 in
theorem valid_4 {x y : Int} {n : Nat} {p : Bool} {A : Option Addr} {c : Nat} {l : List Nat} {q : Bool} {B : Option Addr} {d : Nat} {m : List Nat} {w : World} (h1 : Iv w p A c l x n) (h2 : Iv w q B d m y n) (hn : n ≤ 100) (v1 : vld p l = true) (v2 : vld q m = true) (v3 : 0 < y) (R : Bool) (v4 : Hid (decide (Nat.gcd x.natAbs y.natAbs = 1) = R)) :
    Calls Tryz.prog 16 #[ratV p A l.length c q B m.length d] w fun e w' => e = .returned (.bool R) ∧ Below w.heap.size w w' := by
  have HV1 := Lib.hid (fun (W : World) (h : Iv W p A c l x n) => (by have h := valid_any p A c l W h.sl (by have := h.len; omega); rw [v1] at h; exact h : Calls Tryz.prog 51 #[.agg #[.bool p, .slice A l.length c]] W fun e w' => e = .returned (.bool true) ∧ Below W.heap.size W w'))
  have HV2 := Lib.hid (fun (W : World) (h : Iv W q B d m y n) => (by have h := valid_any q B d m W h.sl (by have := h.len; omega); rw [v2] at h; exact h : Calls Tryz.prog 51 #[.agg #[.bool q, .slice B m.length d]] W fun e w' => e = .returned (.bool true) ∧ Below W.heap.size W w'))
  obtain ⟨s, hs⟩ : ∃ s, s = y.sign := ⟨_, rfl⟩
  have HSG := Lib.hid (fun (W : World) (h : Iv W q B d m y n) => (by have h := gsign h (by omega); rw [← hs] at h; exact h : Calls Tryz.prog 52 #[.agg #[.bool q, .slice B m.length d]] W fun e w' => e = .returned (.int .i64 s) ∧ Below W.heap.size W w'))
  have s1 : 0 < s := by rw [hs]; exact Int.sign_pos_iff.2 v3
  have s2 : decide (0 < s) = true := decide_eq_true s1
  obtain ⟨G, hG⟩ : ∃ G : Int, G = (Nat.gcd x.natAbs y.natAbs : Int) := ⟨_, rfl⟩
  have HGC := Lib.hid (fun (W : World) (h : Iv W p A c l x n) (h' : Iv W q B d m y n) => (by have h := ggcd h h' hn hn; rw [← hG, Nat.max_self] at h; exact h : Calls Tryz.prog 54 #[.agg #[.bool p, .slice A l.length c], .agg #[.bool q, .slice B m.length d]] W (GI G n W)))
  have HO := Lib.hid (fun (W : World) (p3 : Bool) (A3 : Option Addr) (c3 : Nat) (l3 : List Nat) (h : Cn W p3 A3 c3 l3 G n) => gone h.iv (by omega) R (Lib.hid (by rw [← v4.out, decide_eq_decide, hG]; omega)))
  clear hs
  clear hn v1 v2 v3 v4 hG
  unfold ratV
  go_enter Tryz.func16, Tryz.ntmps16
  go_wp2_with fail
  have t1 : Four (w.alloc (.cells #[.bool p, .slice A l.length c, .bool q, .slice B m.length d] 26)) w.heap.size (.bool p) (.slice A l.length c) (.bool q) (.slice B m.length d) := Four.new_ w (.bool p) (.slice A l.length c) (.bool q) (.slice B m.length d) 26
  have bel : Below w.heap.size w (w.alloc (.cells #[.bool p, .slice A l.length c, .bool q, .slice B m.length d] 26)) := (Below.refl _ _).alloc (Nat.le_refl _) _
  generalize (w.alloc (.cells #[.bool p, .slice A l.length c, .bool q, .slice B m.length d] 26)) = wx at t1 bel ⊢
  have X := h1.below bel
  have Y := h2.below bel
  have t1_0 := t1.c0
  have t1_1 := t1.c1
  have t1_2 := t1.c2
  have t1_3 := t1.c3
  go_wp2_with fail
  refine (HV1.out _ X).mono ?_
  rintro e w2 ⟨rfl, hb⟩
  clear t1_0 t1_1 t1_2 t1_3
  replace t1 := t1.below hb t1.lt
  replace bel := bel.trans (hb.mono bel.size)
  replace X := X.below hb
  replace Y := Y.below hb
  clear hb
  have t1_0 := t1.c0
  have t1_1 := t1.c1
  have t1_2 := t1.c2
  have t1_3 := t1.c3
  go_wp2_with fail
  refine (HV2.out _ Y).mono ?_
  rintro e w3 ⟨rfl, hb⟩
  clear t1_0 t1_1 t1_2 t1_3
  replace t1 := t1.below hb t1.lt
  replace bel := bel.trans (hb.mono bel.size)
  replace X := X.below hb
  replace Y := Y.below hb
  clear hb
  have t1_0 := t1.c0
  have t1_1 := t1.c1
  have t1_2 := t1.c2
  have t1_3 := t1.c3
  go_wp2_with fail
  refine (HSG.out _ Y).mono ?_
  rintro e w4 ⟨rfl, hb⟩
  clear t1_0 t1_1 t1_2 t1_3
  replace t1 := t1.below hb t1.lt
  replace bel := bel.trans (hb.mono bel.size)
  replace X := X.below hb
  replace Y := Y.below hb
  clear hb
  have t1_0 := t1.c0
  have t1_1 := t1.c1
  have t1_2 := t1.c2
  have t1_3 := t1.c3
  go_wp2_with fail
  refine (HGC.out _ X Y).mono ?_
  rintro e w5 ⟨p3, A3, c3, l3, rfl, E, hb⟩
  clear t1_0 t1_1 t1_2 t1_3
  replace t1 := t1.below hb t1.lt
  replace bel := bel.trans (hb.mono bel.size)
  replace X := X.below hb
  replace Y := Y.below hb
  clear hb
  go_wp2_with fail
  refine (HO.out _ _ _ _ _ E).mono ?_
  rintro e w6 ⟨rfl, hb⟩
  replace t1 := t1.below hb t1.lt
  replace bel := bel.trans (hb.mono bel.size)
  replace X := X.below hb
  replace Y := Y.below hb
  replace E := E.below hb
  clear hb
  go_wp2_with fail
  go_ret
  exact ⟨rfl, bel⟩

theorem grvalid {z : Rat} {n : Nat} {p : Bool} {A : Option Addr} {c : Nat} {l : List Nat} {q : Bool} {B : Option Addr} {d : Nat} {m : List Nat} {w : World} (h1 : Sl w w.heap.size A c l) (h2 : Sl w w.heap.size B d m) (n1 : l.length ≤ n) (n2 : m.length ≤ n) (hz : Rat.divInt (Kn.iv p l) (Kn.iv q m) = z) (hn : n ≤ 100) :
    Calls Tryz.prog 16 #[ratV p A l.length c q B m.length d] w fun e w' => e = .returned (.bool (decide (canR p l q m z))) ∧ Below w.heap.size w w' := by
  have i1 : Iv w p A c l (Kn.iv p l) n := ⟨h1, rfl, n1⟩
  have i2 : Iv w q B d m (Kn.iv q m) n := ⟨h2, rfl, n2⟩
  have hc := canR_iff (p := p) (q := q) h1.wd h2.wd
  rw [hz] at hc
  cases v1 : vld p l with
  | false =>
    have h := valid_1 i1 i2 hn v1
    rwa [decide_eq_false (fun e => by have := (hc.1 e).1; rw [v1] at this; cases this)]
  | true =>
    cases v2 : vld q m with
    | false =>
      have h := valid_2 i1 i2 hn v1 v2
      rwa [decide_eq_false (fun e => by have := (hc.1 e).2.1; rw [v2] at this; cases this)]
    | true =>
      by_cases v3 : 0 < Kn.iv q m
      · have h := valid_4 i1 i2 hn v1 v2 v3 _ (Lib.hid rfl)
        rw [decide_eq_decide.2 (show Nat.gcd (Kn.iv p l).natAbs (Kn.iv q m).natAbs = 1 ↔ canR p l q m z from ⟨fun e => hc.2 ⟨v1, v2, v3, e⟩, fun e => (hc.1 e).2.2.2⟩)] at h
        exact h
      · have h := valid_3 i1 i2 hn v1 v2 v3
        rwa [decide_eq_false (fun e => v3 (hc.1 e).2.2.1)]
end Go.Proofs.YtpfaddgcfacgdaaGreatDoor
/- Walks of package rational: RationalClean, the law. -/
namespace Go.Proofs.YtpfaddgcfacgdaaGreatDoor
open Go.RowKit
set_option linter.unusedVariables false

/-- a row of words, in the world at hand -/
structure Slx (W : World) (A : Option Addr) (c : Nat) (l : List Nat) : Prop where
  s : Sl W W.heap.size A c l
theorem Slx.below {W W' : World} {A : Option Addr} {c : Nat} {l : List Nat} (h : Slx W A c l) (hb : Below W.heap.size W W') : Slx W' A c l := ⟨h.s.at_ hb (Nat.le_refl _)⟩
theorem Slx.drew {W : World} {A : Option Addr} {c : Nat} {l : List Nat} (h : Slx W A c l) : Slx W.drew A c l := ⟨h.s.drew⟩
theorem rrcln {W : World} {p q : Bool} {A B : Option Addr} {c d : Nat} {l m : List Nat} {z : Rat} {n : Nat} (h : Rv W p A c l q B d m z n) (hn : n ≤ 100) (hn1 : 1 ≤ n) : Calls Tryz.prog 15 #[ratV p A l.length c q B m.length d] W (GR z n W) := by
  obtain ⟨x, y, hx, hy, hz⟩ := h
  rw [← hz]; exact grrcl hx hy hn hn1

set_option maxRecDepth 100000 in
set_option maxHeartbeats 1500000 in
theorem clean_few1 (p1 : Bool) (A1 : Option Addr) (l1 : List Nat) (c1 : Nat) (q1 : Bool) (B1 : Option Addr) (m1 : List Nat) (d1 : Nat) (w : World) (ht : Tabs w) (mx : Mx w) (f1 : decide (l1.length ≤ 4 ∧ m1.length ≤ 4) = false) :
    Calls Tryz.prog 3 #[ratV p1 A1 l1.length c1 q1 B1 m1.length d1] w fun e w' => e = .returned (.bool true) ∧ Below w.heap.size w w' := by
  have HF1 := Lib.hid (fun (W : World) => gfew p1 A1 c1 l1.length q1 B1 d1 m1.length false (Lib.hid f1) W)
  clear f1
  unfold ratV
  go_enter Tryz.func3, Tryz.ntmps3
  go_wp2_with fail
  have t1 : Four (w.alloc (.cells #[.bool p1, .slice A1 l1.length c1, .bool q1, .slice B1 m1.length d1] 26)) w.heap.size (.bool p1) (.slice A1 l1.length c1) (.bool q1) (.slice B1 m1.length d1) := Four.new_ w (.bool p1) (.slice A1 l1.length c1) (.bool q1) (.slice B1 m1.length d1) 26
  have bel : Below w.heap.size w (w.alloc (.cells #[.bool p1, .slice A1 l1.length c1, .bool q1, .slice B1 m1.length d1] 26)) := (Below.refl _ _).alloc (Nat.le_refl _) _
  generalize (w.alloc (.cells #[.bool p1, .slice A1 l1.length c1, .bool q1, .slice B1 m1.length d1] 26)) = wx at t1 bel ⊢
  refine (rknown_ok _ (ht.below bel) (mx.below_ bel)).mono ?_
  rintro e w2 ⟨rfl, hb⟩
  replace t1 := t1.below hb t1.lt
  replace bel := bel.trans (hb.mono bel.size)
  clear hb
  have t1_0 := t1.c0
  have t1_1 := t1.c1
  have t1_2 := t1.c2
  have t1_3 := t1.c3
  go_wp2_with fail
  refine (HF1.out _).mono ?_
  rintro e w3 ⟨rfl, hb⟩
  clear t1_0 t1_1 t1_2 t1_3
  replace t1 := t1.below hb t1.lt
  replace bel := bel.trans (hb.mono bel.size)
  clear hb
  go_wp2_with fail
  go_ret
  exact ⟨rfl, bel⟩

set_option maxRecDepth 100000 in
set_option maxHeartbeats 3000000 in
theorem clean_main (p1 : Bool) (A1 : Option Addr) (l1 : List Nat) (c1 : Nat) (q1 : Bool) (B1 : Option Addr) (m1 : List Nat) (d1 : Nat) {z1 : Rat} (w : World) (g1 : Sl w w.heap.size A1 c1 l1) (g2 : Sl w w.heap.size B1 d1 m1) (n1 : l1.length ≤ 4) (n2 : m1.length ≤ 4) (hz : Rat.divInt (Kn.iv p1 l1) (Kn.iv q1 m1) = z1) (ht : Tabs w) (mx : Mx w) (f1 : decide (l1.length ≤ 4 ∧ m1.length ≤ 4) = true) :
    Calls Tryz.prog 3 #[ratV p1 A1 l1.length c1 q1 B1 m1.length d1] w fun e w' => e = .returned (.bool true) ∧ Below w.heap.size w w' := by
  obtain ⟨B, hB⟩ : ∃ B, B = decide (canR p1 l1 q1 m1 z1) := ⟨_, rfl⟩
  have HV0 := Lib.hid (fun (W : World) (h : Sl W W.heap.size A1 c1 l1) (k : Sl W W.heap.size B1 d1 m1) => (by have h := grvalid (z := z1) (n := 4) h k n1 n2 hz (by decide); rw [← hB] at h; exact h : Calls Tryz.prog 16 #[.agg #[.bool p1, .slice A1 l1.length c1, .bool q1, .slice B1 m1.length d1]] W fun e w' => e = .returned (.bool B) ∧ Below W.heap.size W w'))
  have HV1 := Lib.hid (fun (W : World) (A : Option Addr) (c : Nat) (l : List Nat) (Bb : Option Addr) (d : Nat) (m : List Nat) (h : Cr W A c l Bb d m z1 4) => (by have h9 := grvalid (z := z1) (n := 4) h.a.iv.sl h.b.iv.sl h.a.iv.len h.b.iv.len (by rw [h.a.iv.val, h.b.iv.val]; exact rq_self z1) (by decide); rwa [decide_eq_true (show canR _ l _ m z1 from ⟨⟨rfl, h.a.can.2⟩, rfl, h.b.can.2⟩)] at h9 : Calls Tryz.prog 16 #[.agg #[.bool (decide (z1.num < 0)), .slice A l.length c, .bool false, .slice Bb m.length d]] W fun e w' => e = .returned (.bool true) ∧ Below W.heap.size W w'))
  have HSX := Lib.hid (fun (W : World) (A : Option Addr) (c : Nat) (l : List Nat) (Bb : Option Addr) (d : Nat) (m : List Nat) (h : Sl W W.heap.size A1 c1 l1) (k : Sl W W.heap.size B1 d1 m1) (hc : Cr W A c l Bb d m z1 4) => (by have h := same_raw (p := p1) (q := q1) (p' := decide (z1.num < 0)) (q' := false) h k hc.a.iv.sl hc.b.iv.sl (by omega) (by omega) (by have := hc.a.iv.len; omega) (by have := hc.b.iv.len; omega); rw [decide_eq_decide.2 (show ((p1 = decide (z1.num < 0) ∧ l1 = l) ∧ (q1 = false ∧ m1 = m)) ↔ canR p1 l1 q1 m1 z1 by unfold canR; rw [hc.a.can.2, hc.b.can.2]), ← hB] at h; exact h : Calls Tryz.prog 14 #[.agg #[.bool p1, .slice A1 l1.length c1, .bool q1, .slice B1 m1.length d1], .agg #[.bool (decide (z1.num < 0)), .slice A l.length c, .bool false, .slice Bb m.length d]] W fun e w' => e = .returned (.bool B) ∧ Below W.heap.size W w'))
  have bb : (B == B) = true := beq_self_eq_true B
  have h1 : Rv w p1 A1 c1 l1 q1 B1 d1 m1 z1 4 := ⟨_, _, ⟨g1, rfl, n1⟩, ⟨g2, rfl, n2⟩, hz⟩
  clear hB hz n1 n2
  have HF1 := Lib.hid (fun (W : World) => gfew p1 A1 c1 l1.length q1 B1 d1 m1.length true (Lib.hid f1) W)
  clear f1
  unfold ratV
  go_enter Tryz.func3, Tryz.ntmps3
  go_wp2_with fail
  have t1 : Four (w.alloc (.cells #[.bool p1, .slice A1 l1.length c1, .bool q1, .slice B1 m1.length d1] 26)) w.heap.size (.bool p1) (.slice A1 l1.length c1) (.bool q1) (.slice B1 m1.length d1) := Four.new_ w (.bool p1) (.slice A1 l1.length c1) (.bool q1) (.slice B1 m1.length d1) 26
  have bel : Below w.heap.size w (w.alloc (.cells #[.bool p1, .slice A1 l1.length c1, .bool q1, .slice B1 m1.length d1] 26)) := (Below.refl _ _).alloc (Nat.le_refl _) _
  generalize (w.alloc (.cells #[.bool p1, .slice A1 l1.length c1, .bool q1, .slice B1 m1.length d1] 26)) = wx at t1 bel ⊢
  refine (rknown_ok _ (ht.below bel) (mx.below_ bel)).mono ?_
  rintro e w2 ⟨rfl, hb⟩
  replace t1 := t1.below hb t1.lt
  replace bel := bel.trans (hb.mono bel.size)
  clear hb
  have t1_0 := t1.c0
  have t1_1 := t1.c1
  have t1_2 := t1.c2
  have t1_3 := t1.c3
  go_wp2_with fail
  refine (HF1.out _).mono ?_
  rintro e w3 ⟨rfl, hb⟩
  clear t1_0 t1_1 t1_2 t1_3
  replace t1 := t1.below hb t1.lt
  replace bel := bel.trans (hb.mono bel.size)
  clear hb
  clear HF1
  have X1 := h1.below bel
  have t1_0 := t1.c0
  have t1_1 := t1.c1
  have t1_2 := t1.c2
  have t1_3 := t1.c3
  go_wp2_with fail
  refine (rcln X1 (by decide) (by decide)).mono ?_
  rintro e w4 ⟨A4, c4, l4, B4, d4, m4, rfl, C, hb⟩
  clear t1_0 t1_1 t1_2 t1_3
  replace t1 := t1.below hb t1.lt
  replace bel := bel.trans (hb.mono bel.size)
  clear hb
  clear X1
  go_upto_region 6 with (fail)
  have hg3 : w.heap.size < w4.heap.size := t1.lt
  have t3 : Four (w4.alloc (.cells #[.bool (decide (z1.num < 0)), .slice A4 l4.length c4, .bool false, .slice B4 m4.length d4] 26)) w4.heap.size (.bool (decide (z1.num < 0))) (.slice A4 l4.length c4) (.bool false) (.slice B4 m4.length d4) := Four.new_ w4 (.bool (decide (z1.num < 0))) (.slice A4 l4.length c4) (.bool false) (.slice B4 m4.length d4) 26
  have bn : Below w4.heap.size w4 (w4.alloc (.cells #[.bool (decide (z1.num < 0)), .slice A4 l4.length c4, .bool false, .slice B4 m4.length d4] 26)) := (Below.refl _ _).alloc (Nat.le_refl _) _
  replace t1 := t1.below bn t1.lt
  replace bel := bel.trans (bn.mono bel.size)
  replace C := C.below bn
  clear bn
  generalize (w4.alloc (.cells #[.bool (decide (z1.num < 0)), .slice A4 l4.length c4, .bool false, .slice B4 m4.length d4] 26)) = v1 at t1 bel C t3 ⊢
  generalize w4.heap.size = g3 at t1 bel C t3 hg3 ⊢
  have X := h1.below bel
  have S1 := Slx.mk (g1.at_ bel (Nat.le_refl _))
  have S2 := Slx.mk (g2.at_ bel (Nat.le_refl _))
  replace t1 := t1.drew
  replace bel := bDrew1 bel
  replace C := C.drew
  replace t3 := t3.drew
  replace X := X.drew
  replace S1 := S1.drew
  replace S2 := S2.drew
  go_region_held3 (fun w' => w'.cell? ⟨g3, 0, none⟩ = some (.bool (decide (z1.num < 0))) ∧ w'.cell? ⟨g3, 1, none⟩ = some (.slice A4 l4.length c4) ∧ w'.cell? ⟨g3, 2, none⟩ = some (.bool false) ∧ w'.cell? ⟨g3, 3, none⟩ = some (.slice B4 m4.length d4) ∧ w'.cell? ⟨w.heap.size, 0, none⟩ = some (.bool p1) ∧ w'.cell? ⟨w.heap.size, 1, none⟩ = some (.slice A1 l1.length c1) ∧ w'.cell? ⟨w.heap.size, 2, none⟩ = some (.bool q1) ∧ w'.cell? ⟨w.heap.size, 3, none⟩ = some (.slice B1 m1.length d1))
    (with_reducible exact ⟨t3.c0, t3.c1, t3.c2, t3.c3, t1.c0, t1.c1, t1.c2, t1.c3⟩)
    (first
      | (go_at_call 15; (with_reducible refine (rrcln X (by decide) (by decide)).mono ?_); rintro e wa ⟨A5, c5, l5, B5, d5, m5, rfl, E5, hb⟩; replace t1 := t1.below hb t1.lt; replace bel := bel.trans (hb.mono bel.size); replace C := C.below hb; replace t3 := t3.below hb t3.lt; replace X := X.below hb; replace S1 := S1.below hb; replace S2 := S2.below hb; clear hb)
      | (go_at_call 14; (with_reducible refine (rsame C E5 (by decide) (by decide) rfl).mono ?_); rintro e wa ⟨rfl, hb⟩; replace t1 := t1.below hb t1.lt; replace bel := bel.trans (hb.mono bel.size); replace C := C.below hb; replace t3 := t3.below hb t3.lt; replace X := X.below hb; replace S1 := S1.below hb; replace S2 := S2.below hb; replace E5 := E5.below hb; clear hb)
      | (go_at_call 16; (with_reducible refine (HV1.out _ _ _ _ _ _ _ C).mono ?_); rintro e wa ⟨rfl, hb⟩; replace t1 := t1.below hb t1.lt; replace bel := bel.trans (hb.mono bel.size); replace C := C.below hb; replace t3 := t3.below hb t3.lt; replace X := X.below hb; replace S1 := S1.below hb; replace S2 := S2.below hb; replace E5 := E5.below hb; clear hb)
      | (go_at_call 16; (with_reducible refine (HV0.out _ S1.1 S2.1).mono ?_); rintro e wa ⟨rfl, hb⟩; replace t1 := t1.below hb t1.lt; replace bel := bel.trans (hb.mono bel.size); replace C := C.below hb; replace t3 := t3.below hb t3.lt; replace X := X.below hb; replace S1 := S1.below hb; replace S2 := S2.below hb; replace E5 := E5.below hb; clear hb)
      | (go_at_call 14; (with_reducible refine (HSX.out _ _ _ _ _ _ _ S1.1 S2.1 C).mono ?_); rintro e wa ⟨rfl, hb⟩; replace t1 := t1.below hb t1.lt; replace bel := bel.trans (hb.mono bel.size); replace C := C.below hb; replace t3 := t3.below hb t3.lt; replace X := X.below hb; replace S1 := S1.below hb; replace S2 := S2.below hb; replace E5 := E5.below hb; clear hb)
      | (go_at_call 13; (with_reducible refine (rcln C.rv (by decide) (by decide)).mono ?_); rintro e wa ⟨A6, c6, l6, B6, d6, m6, rfl, E6, hb⟩; replace t1 := t1.below hb t1.lt; replace bel := bel.trans (hb.mono bel.size); replace C := C.below hb; replace t3 := t3.below hb t3.lt; replace X := X.below hb; replace S1 := S1.below hb; replace S2 := S2.below hb; replace E5 := E5.below hb; clear hb)
      | (go_at_call 14; (with_reducible refine (rsame E6 C (by decide) (by decide) rfl).mono ?_); rintro e wa ⟨rfl, hb⟩; replace t1 := t1.below hb t1.lt; replace bel := bel.trans (hb.mono bel.size); replace C := C.below hb; replace t3 := t3.below hb t3.lt; replace X := X.below hb; replace S1 := S1.below hb; replace S2 := S2.below hb; replace E5 := E5.below hb; replace E6 := E6.below hb; clear hb))
  go_wp2_with fail
  go_ret
  exact ⟨rfl, bel⟩

theorem clean_walk (p1 : Bool) (A1 : Option Addr) (c1 : Nat) (l1 : List Nat) (q1 : Bool) (B1 : Option Addr) (d1 : Nat) (m1 : List Nat) (w : World) (h1 : Sl w w.heap.size A1 c1 l1) (k1 : Sl w w.heap.size B1 d1 m1) (ht : Tabs w) (mx : Mx w) :
    Calls Tryz.prog 3 #[ratV p1 A1 l1.length c1 q1 B1 m1.length d1] w fun e w' => e = .returned (.bool true) ∧ Below w.heap.size w w' := by
  cases f1 : decide (l1.length ≤ 4 ∧ m1.length ≤ 4) with
  | false => exact clean_few1 p1 A1 l1 c1 q1 B1 m1 d1 w ht mx f1
  | true => exact clean_main p1 A1 l1 c1 q1 B1 m1 d1 w h1 k1 (of_decide_eq_true f1).1 (of_decide_eq_true f1).2 rfl ht mx f1
end Go.Proofs.YtpfaddgcfacgdaaGreatDoor
