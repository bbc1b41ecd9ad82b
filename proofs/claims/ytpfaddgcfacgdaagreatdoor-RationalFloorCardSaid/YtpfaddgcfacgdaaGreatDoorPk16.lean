/- My texts, packed: Se, LawNew, Sg, LawOf. -/
import Derived.Test.YtpfaddgcfacgdaaGreatDoorPk11
import Derived.Test.YtpfaddgcfacgdaaGreatDoorPk14
import Derived.Test.YtpfaddgcfacgdaaGreatDoorPk15
import Derived.Test.YtpfaddgcfacgdaaGreatDoorPk12
/- Walks of package rational: sameInt and Same of the reference. -/
namespace Go.Proofs.YtpfaddgcfacgdaaGreatDoor
open Go.RowKit
set_option linter.unusedVariables false

set_option maxRecDepth 100000 in
set_option maxHeartbeats 1000000 in
theorem sameInt_any (p : Bool) (A : Option Addr) (ca : Nat) (a : List Nat) (q : Bool) (B : Option Addr) (cb : Nat) (b : List Nat) (w : World) (ha : Sl w w.heap.size A ca a) (hb : Sl w w.heap.size B cb b) (hla : a.length ≤ 1000000000) (hlb : b.length ≤ 1000000000) :
    Calls Tryz.prog 49 #[.agg #[.bool p, .slice A a.length ca], .agg #[.bool q, .slice B b.length cb]] w fun e w' => e = .returned (.bool (decide (p = q ∧ a = b))) ∧ Below w.heap.size w w' := by
  obtain ⟨R, hR⟩ : ∃ R : Bool, Hid (decide (p = q ∧ a = b) = R) := ⟨_, Lib.hid rfl⟩
  rw [hR.out]
  by_cases hpq : p = q
  · subst hpq
    have hpp : (p != p) = false := by simp
    by_cases hl : a.length = b.length
    · have hle : ((a.length : Int) != (b.length : Int)) = false := by simp [hl]
      have hle2 : (a.length != b.length) = false := by simp [hl]
      have l1 : a.length ≤ b.length := by omega
      have l2 : b.length ≤ a.length := by omega
      have HL := Lib.hid hl
      clear hl
      go_enter Tryz.func49, Tryz.ntmps49
      go_wp2_with fail
      have i := P2.new_ w p A a.length ca p B b.length cb 24
      revert i
      generalize (w.alloc (.cells #[.bool p, .slice A a.length ca] 24)).alloc (.cells #[.bool p, .slice B b.length cb] 24) = w1
      intro i
      have c10 := i.t1.c0
      have c11 := i.t1.c1
      have c20 := i.t2.c0
      have c21 := i.t2.c1
      have hX := (ha.below i.bel).more i.bel.size
      have hY := (hb.below i.bel).more i.bel.size
      go_wp2_with fail
      go_loopw [5] (fun v wr => ∃ k q : Nat, k ≤ a.length ∧ v = .int .i64 (k : Nat) ∧ wr = w1.drewN q ∧ Hid (a.take k = b.take k)) (fun v _ => a.length - (intOf v).toNat)
      case atStart => exact ⟨0, 0, Nat.zero_le _, rfl, rfl, Lib.hid rfl⟩
      case round =>
        obtain ⟨k, q, hk, rfl, rfl, HI⟩ := hrel
        by_cases hlt : k < a.length
        · obtain ⟨b1, o1, x, hA1, hb1, hc1, hx, hxl⟩ := hX.word hlt
          obtain ⟨b2, o2, y, hB2, hb2, hc2, hy, hyl⟩ := hY.word (show k < b.length by omega)
          subst hA1 hB2
          have hltb : k < b.length := by omega
          have k1 : (k : Int) < (a.length : Int) := by omega
          have k2 : (k : Int) < (b.length : Int) := by omega
          by_cases hxy : x = y
          · subst hxy
            have HI2 : Hid (a.take (k + 1) = b.take (k + 1)) := Lib.hid (by rw [Kn.take_snoc a hlt, Kn.take_snoc b hltb, HI.out, ← hx.out, ← hy.out])
            go_wp2_with fail
            go_quiet (fail)
            go_wp2_with fail
            go_roundw
            case rel => exact ⟨k + 1, _, by omega, by go_num, rfl, HI2⟩
            case measure => simp [intOf]; omega
          · have hne : ((x : Int) != (y : Int)) = true := by simp; omega
            have hne2 : (x != y) = true := by simp; omega
            have HF : Hid (false = R) := Lib.hid (by
              rw [← hR.out]
              exact (decide_eq_false (fun h => hxy (by rw [hx.out, hy.out, h.2]))).symm)
            clear hxy
            go_wp2_with fail
            go_quiet (fail)
            go_wp2_with fail
            go_ret
            exact ⟨ret_bool HF.out, bDrew (bDrew i.bel _) _⟩
        · obtain rfl : k = a.length := by omega
          have HT : Hid (true = R) := Lib.hid (by
            rw [← hR.out]
            have e := HI.out
            rw [List.take_of_length_le (Nat.le_refl _), List.take_of_length_le (by omega)] at e
            exact (decide_eq_true ⟨by first | rfl | trivial, e⟩).symm)
          go_wp2_with fail
          go_ret
          exact ⟨ret_bool HT.out, bDrew i.bel _⟩
    · have hle : ((a.length : Int) != (b.length : Int)) = true := by simp; omega
      have hle2 : (a.length != b.length) = true := by simp; omega
      have HF : Hid (false = R) := Lib.hid (by
        rw [← hR.out]
        exact (decide_eq_false (fun h => hl (by rw [h.2]))).symm)
      clear hl
      go_enter Tryz.func49, Tryz.ntmps49
      go_wp2_with fail
      go_ret
      exact ⟨ret_bool HF.out, (P2.new_ w p A a.length ca p B b.length cb 24).bel⟩
  · have HF : Hid (false = R) := Lib.hid (by
      rw [← hR.out]
      exact (decide_eq_false (fun h => hpq h.1)).symm)
    have HP := Lib.hid hpq
    clear hpq hR
    cases p <;> cases q
    · exact absurd rfl HP.out
    · go_enter Tryz.func49, Tryz.ntmps49
      go_wp2_with fail
      go_ret
      exact ⟨ret_bool HF.out, (P2.new_ w false A a.length ca true B b.length cb 24).bel⟩
    · go_enter Tryz.func49, Tryz.ntmps49
      go_wp2_with fail
      go_ret
      exact ⟨ret_bool HF.out, (P2.new_ w true A a.length ca false B b.length cb 24).bel⟩
    · exact absurd rfl HP.out


set_option maxRecDepth 100000 in
set_option maxHeartbeats 3000000 in
theorem same_t {w : World} {p q p' q' : Bool} {A B A' B' : Option Addr} {c d c' d' : Nat} {l m l' m' : List Nat} (h1 : Sl w w.heap.size A c l) (h2 : Sl w w.heap.size B d m) (h3 : Sl w w.heap.size A' c' l') (h4 : Sl w w.heap.size B' d' m') (a1 : l.length ≤ 1000) (a2 : m.length ≤ 1000) (a3 : l'.length ≤ 1000) (a4 : m'.length ≤ 1000)
    (hh : (p = p' ∧ l = l')) :
    Calls Tryz.prog 14 #[ratV p A l.length c q B m.length d, ratV p' A' l'.length c' q' B' m'.length d'] w fun e w' => e = .returned (.bool (decide ((p = p' ∧ l = l') ∧ (q = q' ∧ m = m')))) ∧ Below w.heap.size w w' := by
  obtain ⟨R, hR⟩ : ∃ R : Bool, Hid (decide (q = q' ∧ m = m') = R) := ⟨_, Lib.hid rfl⟩
  have H1 := Lib.hid (fun (W : World) (ha : Sl W W.heap.size A c l) (hb : Sl W W.heap.size A' c' l') => (by have h := sameInt_any p A c l p' A' c' l' W ha hb (by omega) (by omega); rwa [decide_eq_true hh] at h : Calls Tryz.prog 49 #[.agg #[.bool p, .slice A l.length c], .agg #[.bool p', .slice A' l'.length c']] W fun e w' => e = .returned (.bool true) ∧ Below W.heap.size W w'))
  have H2 := Lib.hid (fun (W : World) (ha : Sl W W.heap.size B d m) (hb : Sl W W.heap.size B' d' m') => (by have h := sameInt_any q B d m q' B' d' m' W ha hb (by omega) (by omega); rwa [hR.out] at h : Calls Tryz.prog 49 #[.agg #[.bool q, .slice B m.length d], .agg #[.bool q', .slice B' m'.length d']] W fun e w' => e = .returned (.bool R) ∧ Below W.heap.size W w'))
  have HR : Hid (R = decide ((p = p' ∧ l = l') ∧ (q = q' ∧ m = m'))) := Lib.hid (by rw [← hR.out, decide_eq_decide]; exact ⟨fun h => ⟨hh, h⟩, fun h => h.2⟩)
  rw [← HR.out]
  clear hh a1 a2 a3 a4 hR
  unfold ratV
  go_enter Tryz.func14, Tryz.ntmps14
  go_wp2_with fail
  have t1 : Four ((w.alloc (.cells #[.bool p, .slice A l.length c, .bool q, .slice B m.length d] 26)).alloc (.cells #[.bool p', .slice A' l'.length c', .bool q', .slice B' m'.length d'] 26)) w.heap.size (.bool p) (.slice A l.length c) (.bool q) (.slice B m.length d) := (Four.new_ w (.bool p) (.slice A l.length c) (.bool q) (.slice B m.length d) 26).alloc _
  have t2 : Four ((w.alloc (.cells #[.bool p, .slice A l.length c, .bool q, .slice B m.length d] 26)).alloc (.cells #[.bool p', .slice A' l'.length c', .bool q', .slice B' m'.length d'] 26)) (w.heap.size + 1) (.bool p') (.slice A' l'.length c') (.bool q') (.slice B' m'.length d') := by simpa only [World.size_alloc, Nat.add_assoc, Nat.reduceAdd] using Four.new_ (w.alloc (.cells #[.bool p, .slice A l.length c, .bool q, .slice B m.length d] 26)) (.bool p') (.slice A' l'.length c') (.bool q') (.slice B' m'.length d') 26
  have bel : Below w.heap.size w ((w.alloc (.cells #[.bool p, .slice A l.length c, .bool q, .slice B m.length d] 26)).alloc (.cells #[.bool p', .slice A' l'.length c', .bool q', .slice B' m'.length d'] 26)) := ((Below.refl _ _).alloc (Nat.le_refl _) _).alloc (by simp only [World.size_alloc]; omega) _
  generalize ((w.alloc (.cells #[.bool p, .slice A l.length c, .bool q, .slice B m.length d] 26)).alloc (.cells #[.bool p', .slice A' l'.length c', .bool q', .slice B' m'.length d'] 26)) = wx at t1 t2 bel ⊢
  have X1 := h1.at_ bel (Nat.le_refl _)
  have X2 := h3.at_ bel (Nat.le_refl _)
  have t1_0 := t1.c0
  have t1_1 := t1.c1
  have t1_2 := t1.c2
  have t1_3 := t1.c3
  have t2_0 := t2.c0
  have t2_1 := t2.c1
  have t2_2 := t2.c2
  have t2_3 := t2.c3
  go_wp2_with fail
  refine (H1.out _ X1 X2).mono ?_
  rintro e w2 ⟨rfl, hb⟩
  clear t1_0 t1_1 t1_2 t1_3 t2_0 t2_1 t2_2 t2_3
  replace t1 := t1.below hb t1.lt
  replace t2 := t2.below hb t2.lt
  replace bel := bel.trans (hb.mono bel.size)
  clear hb
  clear X1 X2
  have X1 := h2.at_ bel (Nat.le_refl _)
  have X2 := h4.at_ bel (Nat.le_refl _)
  have t1_0 := t1.c0
  have t1_1 := t1.c1
  have t1_2 := t1.c2
  have t1_3 := t1.c3
  have t2_0 := t2.c0
  have t2_1 := t2.c1
  have t2_2 := t2.c2
  have t2_3 := t2.c3
  go_wp2_with fail
  refine (H2.out _ X1 X2).mono ?_
  rintro e w3 ⟨rfl, hb⟩
  clear t1_0 t1_1 t1_2 t1_3 t2_0 t2_1 t2_2 t2_3
  replace t1 := t1.below hb t1.lt
  replace t2 := t2.below hb t2.lt
  replace bel := bel.trans (hb.mono bel.size)
  clear hb
  go_wp2_with fail
  go_ret
  exact ⟨rfl, bel⟩
set_option maxRecDepth 100000 in
set_option maxHeartbeats 3000000 in
theorem same_f {w : World} {p q p' q' : Bool} {A B A' B' : Option Addr} {c d c' d' : Nat} {l m l' m' : List Nat} (h1 : Sl w w.heap.size A c l) (h2 : Sl w w.heap.size B d m) (h3 : Sl w w.heap.size A' c' l') (h4 : Sl w w.heap.size B' d' m') (a1 : l.length ≤ 1000) (a2 : m.length ≤ 1000) (a3 : l'.length ≤ 1000) (a4 : m'.length ≤ 1000)
    (hh : ¬ (p = p' ∧ l = l')) :
    Calls Tryz.prog 14 #[ratV p A l.length c q B m.length d, ratV p' A' l'.length c' q' B' m'.length d'] w fun e w' => e = .returned (.bool (decide ((p = p' ∧ l = l') ∧ (q = q' ∧ m = m')))) ∧ Below w.heap.size w w' := by
  obtain ⟨R, hR⟩ : ∃ R : Bool, Hid (decide (q = q' ∧ m = m') = R) := ⟨_, Lib.hid rfl⟩
  have H1 := Lib.hid (fun (W : World) (ha : Sl W W.heap.size A c l) (hb : Sl W W.heap.size A' c' l') => (by have h := sameInt_any p A c l p' A' c' l' W ha hb (by omega) (by omega); rwa [decide_eq_false hh] at h : Calls Tryz.prog 49 #[.agg #[.bool p, .slice A l.length c], .agg #[.bool p', .slice A' l'.length c']] W fun e w' => e = .returned (.bool false) ∧ Below W.heap.size W w'))
  have HR : Hid (false = decide ((p = p' ∧ l = l') ∧ (q = q' ∧ m = m'))) := Lib.hid (by exact (decide_eq_false (fun h => hh h.1)).symm)
  rw [← HR.out]
  clear hh a1 a2 a3 a4 hR
  unfold ratV
  go_enter Tryz.func14, Tryz.ntmps14
  go_wp2_with fail
  have t1 : Four ((w.alloc (.cells #[.bool p, .slice A l.length c, .bool q, .slice B m.length d] 26)).alloc (.cells #[.bool p', .slice A' l'.length c', .bool q', .slice B' m'.length d'] 26)) w.heap.size (.bool p) (.slice A l.length c) (.bool q) (.slice B m.length d) := (Four.new_ w (.bool p) (.slice A l.length c) (.bool q) (.slice B m.length d) 26).alloc _
  have t2 : Four ((w.alloc (.cells #[.bool p, .slice A l.length c, .bool q, .slice B m.length d] 26)).alloc (.cells #[.bool p', .slice A' l'.length c', .bool q', .slice B' m'.length d'] 26)) (w.heap.size + 1) (.bool p') (.slice A' l'.length c') (.bool q') (.slice B' m'.length d') := by simpa only [World.size_alloc, Nat.add_assoc, Nat.reduceAdd] using Four.new_ (w.alloc (.cells #[.bool p, .slice A l.length c, .bool q, .slice B m.length d] 26)) (.bool p') (.slice A' l'.length c') (.bool q') (.slice B' m'.length d') 26
  have bel : Below w.heap.size w ((w.alloc (.cells #[.bool p, .slice A l.length c, .bool q, .slice B m.length d] 26)).alloc (.cells #[.bool p', .slice A' l'.length c', .bool q', .slice B' m'.length d'] 26)) := ((Below.refl _ _).alloc (Nat.le_refl _) _).alloc (by simp only [World.size_alloc]; omega) _
  generalize ((w.alloc (.cells #[.bool p, .slice A l.length c, .bool q, .slice B m.length d] 26)).alloc (.cells #[.bool p', .slice A' l'.length c', .bool q', .slice B' m'.length d'] 26)) = wx at t1 t2 bel ⊢
  have X1 := h1.at_ bel (Nat.le_refl _)
  have X2 := h3.at_ bel (Nat.le_refl _)
  have t1_0 := t1.c0
  have t1_1 := t1.c1
  have t1_2 := t1.c2
  have t1_3 := t1.c3
  have t2_0 := t2.c0
  have t2_1 := t2.c1
  have t2_2 := t2.c2
  have t2_3 := t2.c3
  go_wp2_with fail
  refine (H1.out _ X1 X2).mono ?_
  rintro e w2 ⟨rfl, hb⟩
  clear t1_0 t1_1 t1_2 t1_3 t2_0 t2_1 t2_2 t2_3
  replace t1 := t1.below hb t1.lt
  replace t2 := t2.below hb t2.lt
  replace bel := bel.trans (hb.mono bel.size)
  clear hb
  clear X1 X2
  go_wp2_with fail
  go_ret
  exact ⟨rfl, bel⟩
theorem same_raw {w : World} {p q p' q' : Bool} {A B A' B' : Option Addr} {c d c' d' : Nat} {l m l' m' : List Nat} (h1 : Sl w w.heap.size A c l) (h2 : Sl w w.heap.size B d m) (h3 : Sl w w.heap.size A' c' l') (h4 : Sl w w.heap.size B' d' m') (a1 : l.length ≤ 1000) (a2 : m.length ≤ 1000) (a3 : l'.length ≤ 1000) (a4 : m'.length ≤ 1000) :
    Calls Tryz.prog 14 #[ratV p A l.length c q B m.length d, ratV p' A' l'.length c' q' B' m'.length d'] w fun e w' => e = .returned (.bool (decide ((p = p' ∧ l = l') ∧ (q = q' ∧ m = m')))) ∧ Below w.heap.size w w' := by
  by_cases hh : p = p' ∧ l = l'
  · exact same_t h1 h2 h3 h4 a1 a2 a3 a4 hh
  · exact same_f h1 h2 h3 h4 a1 a2 a3 a4 hh
theorem grsame {w : World} {A : Option Addr} {c : Nat} {l : List Nat} {B : Option Addr} {d : Nat} {m : List Nat} {z : Rat} {n : Nat} {A' : Option Addr} {c' : Nat} {l' : List Nat} {B' : Option Addr} {d' : Nat} {m' : List Nat} {z' : Rat} {n' : Nat}
    (h : Cr w A c l B d m z n) (h' : Cr w A' c' l' B' d' m' z' n') (hn : n ≤ 1000) (hn' : n' ≤ 1000) :
    Calls Tryz.prog 14 #[ratV (decide (z.num < 0)) A l.length c false B m.length d, ratV (decide (z'.num < 0)) A' l'.length c' false B' m'.length d'] w fun e w' => e = .returned (.bool (decide (z = z'))) ∧ Below w.heap.size w w' := by
  have h1 := same_raw h.a.iv.sl h.b.iv.sl h'.a.iv.sl h'.b.iv.sl (p := decide (z.num < 0)) (q := false) (p' := decide (z'.num < 0)) (q' := false) (by have := h.a.iv.len; omega) (by have := h.b.iv.len; omega) (by have := h'.a.iv.len; omega) (by have := h'.b.iv.len; omega)
  have e : decide ((decide (z.num < 0) = decide (z'.num < 0) ∧ l = l') ∧ (false = false ∧ m = m')) = decide (z = z') := by
    rw [decide_eq_decide]
    constructor
    · rintro ⟨⟨e1, e2⟩, _, e3⟩
      refine Rat.ext ?_ ?_
      · rw [← h.a.iv.val, ← h'.a.iv.val, e1, e2]
      · have : (z.den : Int) = (z'.den : Int) := by rw [← h.b.iv.val, ← h'.b.iv.val, e3]
        omega
    · rintro rfl
      exact ⟨⟨rfl, by rw [h.a.can.2, h'.a.can.2]⟩, rfl, by rw [h.b.can.2, h'.b.can.2]⟩
  rw [e] at h1
  exact h1
end Go.Proofs.YtpfaddgcfacgdaaGreatDoor
/- Walks of package rational: RationalNew, the law. -/
namespace Go.Proofs.YtpfaddgcfacgdaaGreatDoor
open Go.RowKit
set_option linter.unusedVariables false

set_option maxRecDepth 100000 in
set_option maxHeartbeats 1500000 in
theorem new_big1 (nx : Bool) (A : Option Addr) (ca : Nat) (xs : List Nat) (ny : Bool) (B : Option Addr) (cb : Nat) (ys : List Nat) (w : World) (hx : Sl w w.heap.size A ca xs) (hy : Sl w w.heap.size B cb ys) (ht : Tabs w) (mx : Mx w) (hb : ¬ xs.length ≤ 4) :
    Calls Tryz.prog 4 #[intV nx A xs.length ca, intV ny B ys.length cb] w fun e w' => e = .returned (.bool true) ∧ Below w.heap.size w w' := by
  have k1 : (4 : Int) < (xs.length : Int) := by omega
  have k2 : decide ((4 : Int) < (xs.length : Int)) = true := decide_eq_true k1
  clear hb
  unfold intV
  go_enter Tryz.func4, Tryz.ntmps4
  go_wp2_with fail
  have t2 : Two ((w.alloc (.cells #[.bool nx, .slice A xs.length ca] 24)).alloc (.cells #[.bool ny, .slice B ys.length cb] 24)) w.heap.size (.bool nx) (.slice A xs.length ca) := (Two.new_ w (.bool nx) (.slice A xs.length ca) 24).alloc _
  have t3 : Two ((w.alloc (.cells #[.bool nx, .slice A xs.length ca] 24)).alloc (.cells #[.bool ny, .slice B ys.length cb] 24)) (w.heap.size + 1) (.bool ny) (.slice B ys.length cb) := by simpa only [World.size_alloc, Nat.add_assoc, Nat.reduceAdd] using Two.new_ (w.alloc (.cells #[.bool nx, .slice A xs.length ca] 24)) (.bool ny) (.slice B ys.length cb) 24
  have bel : Below w.heap.size w ((w.alloc (.cells #[.bool nx, .slice A xs.length ca] 24)).alloc (.cells #[.bool ny, .slice B ys.length cb] 24)) := ((Below.refl _ _).alloc (Nat.le_refl _) _).alloc (by simp only [World.size_alloc]; omega) _
  generalize ((w.alloc (.cells #[.bool nx, .slice A xs.length ca] 24)).alloc (.cells #[.bool ny, .slice B ys.length cb] 24)) = wx at t2 t3 bel ⊢
  refine (rknown_ok _ (ht.below bel) (mx.below_ bel)).mono ?_
  rintro e w2 ⟨rfl, hb⟩
  replace t2 := t2.below hb t2.lt
  replace t3 := t3.below hb t3.lt
  replace bel := bel.trans (hb.mono bel.size)
  clear hb
  have t2_0 := t2.c0
  have t2_1 := t2.c1
  have t3_0 := t3.c0
  have t3_1 := t3.c1
  go_wp2_with fail
  go_ret
  exact ⟨rfl, bel⟩

set_option maxRecDepth 100000 in
set_option maxHeartbeats 1500000 in
theorem new_big2 (nx : Bool) (A : Option Addr) (ca : Nat) (xs : List Nat) (ny : Bool) (B : Option Addr) (cb : Nat) (ys : List Nat) (w : World) (hx : Sl w w.heap.size A ca xs) (hy : Sl w w.heap.size B cb ys) (ht : Tabs w) (mx : Mx w) (ha : xs.length ≤ 4) (hb : ¬ ys.length ≤ 4) :
    Calls Tryz.prog 4 #[intV nx A xs.length ca, intV ny B ys.length cb] w fun e w' => e = .returned (.bool true) ∧ Below w.heap.size w w' := by
  have k1 : ¬ (4 : Int) < (xs.length : Int) := by omega
  have k2 : decide ((4 : Int) < (xs.length : Int)) = false := decide_eq_false k1
  have k3 : (4 : Int) < (ys.length : Int) := by omega
  have k4 : decide ((4 : Int) < (ys.length : Int)) = true := decide_eq_true k3
  clear hb ha
  unfold intV
  go_enter Tryz.func4, Tryz.ntmps4
  go_wp2_with fail
  have t2 : Two ((w.alloc (.cells #[.bool nx, .slice A xs.length ca] 24)).alloc (.cells #[.bool ny, .slice B ys.length cb] 24)) w.heap.size (.bool nx) (.slice A xs.length ca) := (Two.new_ w (.bool nx) (.slice A xs.length ca) 24).alloc _
  have t3 : Two ((w.alloc (.cells #[.bool nx, .slice A xs.length ca] 24)).alloc (.cells #[.bool ny, .slice B ys.length cb] 24)) (w.heap.size + 1) (.bool ny) (.slice B ys.length cb) := by simpa only [World.size_alloc, Nat.add_assoc, Nat.reduceAdd] using Two.new_ (w.alloc (.cells #[.bool nx, .slice A xs.length ca] 24)) (.bool ny) (.slice B ys.length cb) 24
  have bel : Below w.heap.size w ((w.alloc (.cells #[.bool nx, .slice A xs.length ca] 24)).alloc (.cells #[.bool ny, .slice B ys.length cb] 24)) := ((Below.refl _ _).alloc (Nat.le_refl _) _).alloc (by simp only [World.size_alloc]; omega) _
  generalize ((w.alloc (.cells #[.bool nx, .slice A xs.length ca] 24)).alloc (.cells #[.bool ny, .slice B ys.length cb] 24)) = wx at t2 t3 bel ⊢
  refine (rknown_ok _ (ht.below bel) (mx.below_ bel)).mono ?_
  rintro e w2 ⟨rfl, hb⟩
  replace t2 := t2.below hb t2.lt
  replace t3 := t3.below hb t3.lt
  replace bel := bel.trans (hb.mono bel.size)
  clear hb
  have t2_0 := t2.c0
  have t2_1 := t2.c1
  have t3_0 := t3.c0
  have t3_1 := t3.c1
  go_wp2_with fail
  go_ret
  exact ⟨rfl, bel⟩

set_option maxRecDepth 100000 in
set_option maxHeartbeats 1500000 in
theorem new_zero (nx : Bool) (A : Option Addr) (ca : Nat) (xs : List Nat) (ny : Bool) (B : Option Addr) (cb : Nat) (ys : List Nat) (w : World) (hx : Sl w w.heap.size A ca xs) (hy : Sl w w.heap.size B cb ys) (ht : Tabs w) (mx : Mx w) (ha : xs.length ≤ 4) (hb : ys.length ≤ 4) (h0 : Kn.iv ny ys = 0) :
    Calls Tryz.prog 4 #[intV nx A xs.length ca, intV ny B ys.length cb] w fun e w' => e = .returned (.bool true) ∧ Below w.heap.size w w' := by
  have k1 : ¬ (4 : Int) < (xs.length : Int) := by omega
  have k2 : decide ((4 : Int) < (xs.length : Int)) = false := decide_eq_false k1
  have k3 : ¬ (4 : Int) < (ys.length : Int) := by omega
  have k4 : decide ((4 : Int) < (ys.length : Int)) = false := decide_eq_false k3
  obtain ⟨x, hxv⟩ : ∃ x : Int, x = Kn.iv nx xs := ⟨_, rfl⟩
  obtain ⟨y, hyv⟩ : ∃ y : Int, y = Kn.iv ny ys := ⟨_, rfl⟩
  rw [← hyv] at h0
  have X0 : Iv w nx A ca xs x 4 := ⟨hx, hxv.symm, ha⟩
  have Y0 : Iv w ny B cb ys y 4 := ⟨hy, hyv.symm, hb⟩
  clear hxv hyv ha hb
  have HN1 := Lib.hid (fun (W : World) (h : Iv W ny B cb ys y 4) => (by rw [h0] at h; exact gnew0 h (by decide) : Calls Tryz.prog 17 #[.agg #[.bool nx, .slice A xs.length ca], .agg #[.bool ny, .slice B ys.length cb]] W fun e w' => e = .returned (.tuple #[.agg #[.bool false, .slice none 0 0, .bool false, .slice none 0 0], .int .i64 3]) ∧ Below W.heap.size W w'))
  have HN2 := Lib.hid (fun (W : World) (h : Iv W nx A ca xs x 4) (h' : Iv W ny B cb ys y 4) => (grnew0 h h' h0 (by decide) : Calls Tryz.prog 18 #[.agg #[.bool nx, .slice A xs.length ca], .agg #[.bool ny, .slice B ys.length cb]] W fun e w' => e = .returned (.tuple #[.agg #[.bool false, .slice none 0 0, .bool false, .slice none 0 0], .int .i64 3]) ∧ Below W.heap.size W w'))
  have HS0 : Hid (∀ W : World, Calls Tryz.prog 14 #[.agg #[.bool false, .slice none 0 0, .bool false, .slice none 0 0], .agg #[.bool false, .slice none 0 0, .bool false, .slice none 0 0]] W fun e w' => e = .returned (.bool true) ∧ Below W.heap.size W w') := Lib.hid (fun W => same_raw (Sl.nil _ _) (Sl.nil _ _) (Sl.nil _ _) (Sl.nil _ _) (by decide) (by decide) (by decide) (by decide))
  clear h0
  unfold intV
  go_enter Tryz.func4, Tryz.ntmps4
  go_wp2_with fail
  have t2 : Two ((w.alloc (.cells #[.bool nx, .slice A xs.length ca] 24)).alloc (.cells #[.bool ny, .slice B ys.length cb] 24)) w.heap.size (.bool nx) (.slice A xs.length ca) := (Two.new_ w (.bool nx) (.slice A xs.length ca) 24).alloc _
  have t3 : Two ((w.alloc (.cells #[.bool nx, .slice A xs.length ca] 24)).alloc (.cells #[.bool ny, .slice B ys.length cb] 24)) (w.heap.size + 1) (.bool ny) (.slice B ys.length cb) := by simpa only [World.size_alloc, Nat.add_assoc, Nat.reduceAdd] using Two.new_ (w.alloc (.cells #[.bool nx, .slice A xs.length ca] 24)) (.bool ny) (.slice B ys.length cb) 24
  have bel : Below w.heap.size w ((w.alloc (.cells #[.bool nx, .slice A xs.length ca] 24)).alloc (.cells #[.bool ny, .slice B ys.length cb] 24)) := ((Below.refl _ _).alloc (Nat.le_refl _) _).alloc (by simp only [World.size_alloc]; omega) _
  generalize ((w.alloc (.cells #[.bool nx, .slice A xs.length ca] 24)).alloc (.cells #[.bool ny, .slice B ys.length cb] 24)) = wx at t2 t3 bel ⊢
  refine (rknown_ok _ (ht.below bel) (mx.below_ bel)).mono ?_
  rintro e w2 ⟨rfl, hb⟩
  replace t2 := t2.below hb t2.lt
  replace t3 := t3.below hb t3.lt
  replace bel := bel.trans (hb.mono bel.size)
  clear hb
  have t2_0 := t2.c0
  have t2_1 := t2.c1
  have t3_0 := t3.c0
  have t3_1 := t3.c1
  go_wp2_with fail
  have X := X0.below bel
  have Y := Y0.below bel
  refine (HN1.out _ Y).mono ?_
  rintro e w3 ⟨rfl, hb⟩
  clear t2_0 t2_1 t3_0 t3_1
  replace t2 := t2.below hb t2.lt
  replace t3 := t3.below hb t3.lt
  replace bel := bel.trans (hb.mono bel.size)
  clear hb
  clear X Y
  go_upto_region 6 with (fail)
  have hg5 : w.heap.size + 1 < w3.heap.size := t3.lt
  have t5 : Four (w3.alloc (.cells #[.bool false, .slice none 0 0, .bool false, .slice none 0 0] 26)) w3.heap.size (.bool false) (.slice none 0 0) (.bool false) (.slice none 0 0) := Four.new_ w3 (.bool false) (.slice none 0 0) (.bool false) (.slice none 0 0) 26
  have bn : Below w3.heap.size w3 (w3.alloc (.cells #[.bool false, .slice none 0 0, .bool false, .slice none 0 0] 26)) := (Below.refl _ _).alloc (Nat.le_refl _) _
  replace t2 := t2.below bn t2.lt
  replace t3 := t3.below bn t3.lt
  replace bel := bel.trans (bn.mono bel.size)
  clear bn
  generalize (w3.alloc (.cells #[.bool false, .slice none 0 0, .bool false, .slice none 0 0] 26)) = v1 at t2 t3 bel t5 ⊢
  generalize w3.heap.size = g5 at t2 t3 bel t5 hg5 ⊢
  have X := X0.below bel
  have Y := Y0.below bel
  have t2_0 := t2.c0
  have t2_1 := t2.c1
  have t3_0 := t3.c0
  have t3_1 := t3.c1
  go_wp2_with fail
  refine (HN2.out _ X Y).mono ?_
  rintro e w4 ⟨rfl, hb⟩
  clear t2_0 t2_1 t3_0 t3_1
  replace t2 := t2.below hb t2.lt
  replace t3 := t3.below hb t3.lt
  replace bel := bel.trans (hb.mono bel.size)
  replace t5 := t5.below hb t5.lt
  clear hb
  clear X Y
  go_upto_region 7 with (fail)
  have hg7 : g5 < w4.heap.size := t5.lt
  have t7 : Four (w4.alloc (.cells #[.bool false, .slice none 0 0, .bool false, .slice none 0 0] 26)) w4.heap.size (.bool false) (.slice none 0 0) (.bool false) (.slice none 0 0) := Four.new_ w4 (.bool false) (.slice none 0 0) (.bool false) (.slice none 0 0) 26
  have bn : Below w4.heap.size w4 (w4.alloc (.cells #[.bool false, .slice none 0 0, .bool false, .slice none 0 0] 26)) := (Below.refl _ _).alloc (Nat.le_refl _) _
  replace t2 := t2.below bn t2.lt
  replace t3 := t3.below bn t3.lt
  replace bel := bel.trans (bn.mono bel.size)
  replace t5 := t5.below bn t5.lt
  clear bn
  generalize (w4.alloc (.cells #[.bool false, .slice none 0 0, .bool false, .slice none 0 0] 26)) = v2 at t2 t3 bel t5 t7 ⊢
  generalize w4.heap.size = g7 at t2 t3 bel t5 t7 hg7 ⊢
  have t5_0 := t5.c0
  have t5_1 := t5.c1
  have t5_2 := t5.c2
  have t5_3 := t5.c3
  have t7_0 := t7.c0
  have t7_1 := t7.c1
  have t7_2 := t7.c2
  have t7_3 := t7.c3
  go_wp2_with fail
  refine (HS0.out _).mono ?_
  rintro e w5 ⟨rfl, hb⟩
  clear t5_0 t5_1 t5_2 t5_3 t7_0 t7_1 t7_2 t7_3
  replace t2 := t2.below hb t2.lt
  replace t3 := t3.below hb t3.lt
  replace bel := bel.trans (hb.mono bel.size)
  replace t5 := t5.below hb t5.lt
  replace t7 := t7.below hb t7.lt
  clear hb
  go_wp2_with fail
  go_ret
  exact ⟨rfl, bel⟩

set_option maxRecDepth 100000 in
set_option maxHeartbeats 1500000 in
theorem new_ok (nx : Bool) (A : Option Addr) (ca : Nat) (xs : List Nat) (ny : Bool) (B : Option Addr) (cb : Nat) (ys : List Nat) (w : World) (hx : Sl w w.heap.size A ca xs) (hy : Sl w w.heap.size B cb ys) (ht : Tabs w) (mx : Mx w) (ha : xs.length ≤ 4) (hb : ys.length ≤ 4) (h0 : Kn.iv ny ys ≠ 0) :
    Calls Tryz.prog 4 #[intV nx A xs.length ca, intV ny B ys.length cb] w fun e w' => e = .returned (.bool true) ∧ Below w.heap.size w w' := by
  have k1 : ¬ (4 : Int) < (xs.length : Int) := by omega
  have k2 : decide ((4 : Int) < (xs.length : Int)) = false := decide_eq_false k1
  have k3 : ¬ (4 : Int) < (ys.length : Int) := by omega
  have k4 : decide ((4 : Int) < (ys.length : Int)) = false := decide_eq_false k3
  obtain ⟨x, hxv⟩ : ∃ x : Int, x = Kn.iv nx xs := ⟨_, rfl⟩
  obtain ⟨y, hyv⟩ : ∃ y : Int, y = Kn.iv ny ys := ⟨_, rfl⟩
  rw [← hyv] at h0
  have X0 : Iv w nx A ca xs x 4 := ⟨hx, hxv.symm, ha⟩
  have Y0 : Iv w ny B cb ys y 4 := ⟨hy, hyv.symm, hb⟩
  clear hxv hyv ha hb
  obtain ⟨z, hz⟩ : ∃ z, z = Rat.divInt x y := ⟨_, rfl⟩
  have HN1 := Lib.hid (fun (W : World) (h : Iv W nx A ca xs x 4) (h' : Iv W ny B cb ys y 4) => (by have h := gnew h h' h0 (by decide) (by decide); rw [← hz] at h; exact h : Calls Tryz.prog 17 #[.agg #[.bool nx, .slice A xs.length ca], .agg #[.bool ny, .slice B ys.length cb]] W (GRc z 4 W)))
  have HN2 := Lib.hid (fun (W : World) (h : Iv W nx A ca xs x 4) (h' : Iv W ny B cb ys y 4) => (by have h := grnew h h' h0 (by decide) (by decide); rw [← hz] at h; exact h : Calls Tryz.prog 18 #[.agg #[.bool nx, .slice A xs.length ca], .agg #[.bool ny, .slice B ys.length cb]] W (GRc z 4 W)))
  have HSM := Lib.hid (fun (W : World) (A : Option Addr) (c : Nat) (l : List Nat) (B : Option Addr) (d : Nat) (m : List Nat) (A' : Option Addr) (c' : Nat) (l' : List Nat) (B' : Option Addr) (d' : Nat) (m' : List Nat) (h : Cr W A c l B d m z 4) (h' : Cr W A' c' l' B' d' m' z 4) => (by have h := grsame h h' (by decide) (by decide); rwa [decide_eq_true rfl] at h : Calls Tryz.prog 14 #[.agg #[.bool (decide (z.num < 0)), .slice A l.length c, .bool false, .slice B m.length d], .agg #[.bool (decide (z.num < 0)), .slice A' l'.length c', .bool false, .slice B' m'.length d']] W fun e w' => e = .returned (.bool true) ∧ Below W.heap.size W w'))
  clear hz
  clear h0
  unfold intV
  go_enter Tryz.func4, Tryz.ntmps4
  go_wp2_with fail
  have t2 : Two ((w.alloc (.cells #[.bool nx, .slice A xs.length ca] 24)).alloc (.cells #[.bool ny, .slice B ys.length cb] 24)) w.heap.size (.bool nx) (.slice A xs.length ca) := (Two.new_ w (.bool nx) (.slice A xs.length ca) 24).alloc _
  have t3 : Two ((w.alloc (.cells #[.bool nx, .slice A xs.length ca] 24)).alloc (.cells #[.bool ny, .slice B ys.length cb] 24)) (w.heap.size + 1) (.bool ny) (.slice B ys.length cb) := by simpa only [World.size_alloc, Nat.add_assoc, Nat.reduceAdd] using Two.new_ (w.alloc (.cells #[.bool nx, .slice A xs.length ca] 24)) (.bool ny) (.slice B ys.length cb) 24
  have bel : Below w.heap.size w ((w.alloc (.cells #[.bool nx, .slice A xs.length ca] 24)).alloc (.cells #[.bool ny, .slice B ys.length cb] 24)) := ((Below.refl _ _).alloc (Nat.le_refl _) _).alloc (by simp only [World.size_alloc]; omega) _
  generalize ((w.alloc (.cells #[.bool nx, .slice A xs.length ca] 24)).alloc (.cells #[.bool ny, .slice B ys.length cb] 24)) = wx at t2 t3 bel ⊢
  refine (rknown_ok _ (ht.below bel) (mx.below_ bel)).mono ?_
  rintro e w2 ⟨rfl, hb⟩
  replace t2 := t2.below hb t2.lt
  replace t3 := t3.below hb t3.lt
  replace bel := bel.trans (hb.mono bel.size)
  clear hb
  have t2_0 := t2.c0
  have t2_1 := t2.c1
  have t3_0 := t3.c0
  have t3_1 := t3.c1
  go_wp2_with fail
  have X := X0.below bel
  have Y := Y0.below bel
  refine (HN1.out _ X Y).mono ?_
  rintro e w3 ⟨A1, c1, l1, B1, d1, m1, rfl, C1, hb⟩
  clear t2_0 t2_1 t3_0 t3_1
  replace t2 := t2.below hb t2.lt
  replace t3 := t3.below hb t3.lt
  replace bel := bel.trans (hb.mono bel.size)
  clear hb
  clear X Y
  go_upto_region 6 with (fail)
  have hg5 : w.heap.size + 1 < w3.heap.size := t3.lt
  have t5 : Four (w3.alloc (.cells #[.bool (decide (z.num < 0)), .slice A1 l1.length c1, .bool false, .slice B1 m1.length d1] 26)) w3.heap.size (.bool (decide (z.num < 0))) (.slice A1 l1.length c1) (.bool false) (.slice B1 m1.length d1) := Four.new_ w3 (.bool (decide (z.num < 0))) (.slice A1 l1.length c1) (.bool false) (.slice B1 m1.length d1) 26
  have bn : Below w3.heap.size w3 (w3.alloc (.cells #[.bool (decide (z.num < 0)), .slice A1 l1.length c1, .bool false, .slice B1 m1.length d1] 26)) := (Below.refl _ _).alloc (Nat.le_refl _) _
  replace t2 := t2.below bn t2.lt
  replace t3 := t3.below bn t3.lt
  replace bel := bel.trans (bn.mono bel.size)
  replace C1 := C1.below bn
  clear bn
  generalize (w3.alloc (.cells #[.bool (decide (z.num < 0)), .slice A1 l1.length c1, .bool false, .slice B1 m1.length d1] 26)) = v1 at t2 t3 bel C1 t5 ⊢
  generalize w3.heap.size = g5 at t2 t3 bel C1 t5 hg5 ⊢
  have X := X0.below bel
  have Y := Y0.below bel
  have t2_0 := t2.c0
  have t2_1 := t2.c1
  have t3_0 := t3.c0
  have t3_1 := t3.c1
  go_wp2_with fail
  refine (HN2.out _ X Y).mono ?_
  rintro e w4 ⟨A2, c2, l2, B2', d2, m2, rfl, C2, hb⟩
  clear t2_0 t2_1 t3_0 t3_1
  replace t2 := t2.below hb t2.lt
  replace t3 := t3.below hb t3.lt
  replace bel := bel.trans (hb.mono bel.size)
  replace C1 := C1.below hb
  replace t5 := t5.below hb t5.lt
  clear hb
  clear X Y
  go_upto_region 7 with (fail)
  have hg7 : g5 < w4.heap.size := t5.lt
  have t7 : Four (w4.alloc (.cells #[.bool (decide (z.num < 0)), .slice A2 l2.length c2, .bool false, .slice B2' m2.length d2] 26)) w4.heap.size (.bool (decide (z.num < 0))) (.slice A2 l2.length c2) (.bool false) (.slice B2' m2.length d2) := Four.new_ w4 (.bool (decide (z.num < 0))) (.slice A2 l2.length c2) (.bool false) (.slice B2' m2.length d2) 26
  have bn : Below w4.heap.size w4 (w4.alloc (.cells #[.bool (decide (z.num < 0)), .slice A2 l2.length c2, .bool false, .slice B2' m2.length d2] 26)) := (Below.refl _ _).alloc (Nat.le_refl _) _
  replace t2 := t2.below bn t2.lt
  replace t3 := t3.below bn t3.lt
  replace bel := bel.trans (bn.mono bel.size)
  replace C1 := C1.below bn
  replace t5 := t5.below bn t5.lt
  replace C2 := C2.below bn
  clear bn
  generalize (w4.alloc (.cells #[.bool (decide (z.num < 0)), .slice A2 l2.length c2, .bool false, .slice B2' m2.length d2] 26)) = v2 at t2 t3 bel C1 t5 C2 t7 ⊢
  generalize w4.heap.size = g7 at t2 t3 bel C1 t5 C2 t7 hg7 ⊢
  have t5_0 := t5.c0
  have t5_1 := t5.c1
  have t5_2 := t5.c2
  have t5_3 := t5.c3
  have t7_0 := t7.c0
  have t7_1 := t7.c1
  have t7_2 := t7.c2
  have t7_3 := t7.c3
  go_wp2_with fail
  refine (HSM.out _ _ _ _ _ _ _ _ _ _ _ _ _ C1 C2).mono ?_
  rintro e w5 ⟨rfl, hb⟩
  clear t5_0 t5_1 t5_2 t5_3 t7_0 t7_1 t7_2 t7_3
  replace t2 := t2.below hb t2.lt
  replace t3 := t3.below hb t3.lt
  replace bel := bel.trans (hb.mono bel.size)
  replace C1 := C1.below hb
  replace t5 := t5.below hb t5.lt
  replace C2 := C2.below hb
  replace t7 := t7.below hb t7.lt
  clear hb
  go_wp2_with fail
  go_ret
  exact ⟨rfl, bel⟩

theorem new_walk (nx : Bool) (A : Option Addr) (ca : Nat) (xs : List Nat) (ny : Bool) (B : Option Addr) (cb : Nat) (ys : List Nat) (w : World) (hx : Sl w w.heap.size A ca xs) (hy : Sl w w.heap.size B cb ys) (ht : Tabs w) (mx : Mx w) :
    Calls Tryz.prog 4 #[intV nx A xs.length ca, intV ny B ys.length cb] w fun e w' => e = .returned (.bool true) ∧ Below w.heap.size w w' := by
  by_cases ha : xs.length ≤ 4
  · by_cases hb : ys.length ≤ 4
    · by_cases h0 : Kn.iv ny ys = 0
      · exact new_zero nx A ca xs ny B cb ys w hx hy ht mx ha hb h0
      · exact new_ok nx A ca xs ny B cb ys w hx hy ht mx ha hb h0
    · exact new_big2 nx A ca xs ny B cb ys w hx hy ht mx ha hb
  · exact new_big1 nx A ca xs ny B cb ys w hx hy ht mx ha
end Go.Proofs.YtpfaddgcfacgdaaGreatDoor
/- Walks of package rational: Of of both. -/
namespace Go.Proofs.YtpfaddgcfacgdaaGreatDoor
open Go.RowKit
set_option linter.unusedVariables false

set_option maxRecDepth 100000 in
set_option maxHeartbeats 3000000 in
theorem grofr {a b : Int} (ha : -9223372036854775808 ≤ a ∧ a ≤ 9223372036854775807) (hb : -9223372036854775808 ≤ b ∧ b ≤ 9223372036854775807) (h0 : b ≠ 0) (w : World) :
    Calls Tryz.prog 20 #[.int .i64 a, .int .i64 b] w (GRc (Rat.divInt a b) 2 w) := by
  have HA := Lib.hid (fun W => rsmall_of (fun W => grofi ha W) W)
  have HB := Lib.hid (fun W => rsmall_of (fun W => grofi hb W) W)
  obtain ⟨z, hz⟩ : ∃ z, z = Rat.divInt a b := ⟨_, rfl⟩
  rw [← hz]
  have HNW := Lib.hid (fun (W : World) (p : Bool) (A : Option Addr) (c : Nat) (l : List Nat) (q : Bool) (B : Option Addr) (d : Nat) (m : List Nat) (h1 : Cn W p A c l a 2) (h2 : Cn W q B d m b 2) => (by have h := grnew h1.iv h2.iv h0 (by decide) (by decide); rw [← hz] at h; exact h : Calls Tryz.prog 18 #[.agg #[.bool p, .slice A l.length c], .agg #[.bool q, .slice B m.length d]] W (GRc z 2 W)))
  clear ha hb h0 hz
  go_enter Tryz.func20, Tryz.ntmps20
  go_wp2_with fail
  have t3 : Four (w.alloc (.cells #[.bool false, .slice none 0 0, .bool false, .slice none 0 0] 26)) w.heap.size (.bool false) (.slice none 0 0) (.bool false) (.slice none 0 0) := Four.new_ w (.bool false) (.slice none 0 0) (.bool false) (.slice none 0 0) 26
  have bel : Below w.heap.size w (w.alloc (.cells #[.bool false, .slice none 0 0, .bool false, .slice none 0 0] 26)) := (Below.refl _ _).alloc (Nat.le_refl _) _
  generalize (w.alloc (.cells #[.bool false, .slice none 0 0, .bool false, .slice none 0 0] 26)) = wx at t3 bel ⊢
  refine (HA.out _).mono ?_
  rintro e w2 ⟨p1, A1, c1, l1, rfl, C1, hb⟩
  replace t3 := t3.below hb t3.lt
  replace bel := bel.trans (hb.mono bel.size)
  clear hb
  go_wp2_with fail
  refine (HB.out _).mono ?_
  rintro e w3 ⟨q1, B1, d1, m1, rfl, C2, hb⟩
  replace t3 := t3.below hb t3.lt
  replace bel := bel.trans (hb.mono bel.size)
  replace C1 := C1.below hb
  clear hb
  go_wp2_with fail
  refine (HNW.out _ _ _ _ _ _ _ _ _ C1 C2).mono ?_
  rintro e w4 ⟨A5, c5, l5, A6, c6, l6, rfl, CC, hb⟩
  clear C1 C2
  replace t3 := t3.below hb t3.lt
  replace bel := bel.trans (hb.mono bel.size)
  clear hb
  have d0 := t3.c0
  have d1 := t3.c1
  have d2 := t3.c2
  have d3 := t3.c3
  have f0 := t3.fr 0
  have f1 := t3.fr 1
  have f2 := t3.fr 2
  have f3 := t3.fr 3
  have R := Lib.hid (t3.put (.bool (decide (z.num < 0))) (.slice A5 l5.length c5) (.bool false) (.slice A6 l6.length c6))
  have CR := Lib.hid (CC.put4 t3 (.bool (decide (z.num < 0))) (.slice A5 l5.length c5) (.bool false) (.slice A6 l6.length c6))
  have BL := Lib.hid (below_set4 bel (b := w.heap.size) (by omega) (.bool (decide (z.num < 0))) (.slice A5 l5.length c5) (.bool false) (.slice A6 l6.length c6))
  clear t3 bel CC
  go_wp2_with fail
  have r0 := R.out.c0
  have r1 := R.out.c1
  have r2 := R.out.c2
  have r3 := R.out.c3
  unfold set4 at r0 r1 r2 r3
  refine bodyPost_ret (v := .tuple #[.agg #[.bool (decide (z.num < 0)), .slice A5 l5.length c5, .bool false, .slice A6 l6.length c6], .int .i64 0]) (by simp [results, Tryz.results20, go_sem, r0, r1, r2, r3]) rfl ?_
  exact ⟨A5, c5, l5, A6, c6, l6, rfl, CR.out, BL.out⟩

set_option maxRecDepth 100000 in
set_option maxHeartbeats 3000000 in
theorem grofr0 {a b : Int} (ha : -9223372036854775808 ≤ a ∧ a ≤ 9223372036854775807) (hb : -9223372036854775808 ≤ b ∧ b ≤ 9223372036854775807) (h0 : b = 0) (w : World) :
    Calls Tryz.prog 20 #[.int .i64 a, .int .i64 b] w fun e w' => e = .returned (.tuple #[ratV false none 0 0 false none 0 0, .int .i64 3]) ∧ Below w.heap.size w w' := by
  unfold ratV
  have HA := Lib.hid (fun W => rsmall_of (fun W => grofi ha W) W)
  have HB := Lib.hid (fun W => rsmall_of (fun W => grofi hb W) W)
  have HNW := Lib.hid (fun (W : World) (p : Bool) (A : Option Addr) (c : Nat) (l : List Nat) (q : Bool) (B : Option Addr) (d : Nat) (m : List Nat) (h1 : Cn W p A c l a 2) (h2 : Cn W q B d m b 2) => (grnew0 h1.iv h2.iv h0 (by decide) : Calls Tryz.prog 18 #[.agg #[.bool p, .slice A l.length c], .agg #[.bool q, .slice B m.length d]] W fun e w' => e = .returned (.tuple #[.agg #[.bool false, .slice none 0 0, .bool false, .slice none 0 0], .int .i64 3]) ∧ Below W.heap.size W w'))
  clear ha hb h0
  go_enter Tryz.func20, Tryz.ntmps20
  go_wp2_with fail
  have t3 : Four (w.alloc (.cells #[.bool false, .slice none 0 0, .bool false, .slice none 0 0] 26)) w.heap.size (.bool false) (.slice none 0 0) (.bool false) (.slice none 0 0) := Four.new_ w (.bool false) (.slice none 0 0) (.bool false) (.slice none 0 0) 26
  have bel : Below w.heap.size w (w.alloc (.cells #[.bool false, .slice none 0 0, .bool false, .slice none 0 0] 26)) := (Below.refl _ _).alloc (Nat.le_refl _) _
  generalize (w.alloc (.cells #[.bool false, .slice none 0 0, .bool false, .slice none 0 0] 26)) = wx at t3 bel ⊢
  refine (HA.out _).mono ?_
  rintro e w2 ⟨p1, A1, c1, l1, rfl, C1, hb⟩
  replace t3 := t3.below hb t3.lt
  replace bel := bel.trans (hb.mono bel.size)
  clear hb
  go_wp2_with fail
  refine (HB.out _).mono ?_
  rintro e w3 ⟨q1, B1, d1, m1, rfl, C2, hb⟩
  replace t3 := t3.below hb t3.lt
  replace bel := bel.trans (hb.mono bel.size)
  replace C1 := C1.below hb
  clear hb
  go_wp2_with fail
  refine (HNW.out _ _ _ _ _ _ _ _ _ C1 C2).mono ?_
  rintro e w4 ⟨rfl, hb⟩
  clear C1 C2
  replace t3 := t3.below hb t3.lt
  replace bel := bel.trans (hb.mono bel.size)
  clear hb
  have d0 := t3.c0
  have d1 := t3.c1
  have d2 := t3.c2
  have d3 := t3.c3
  have f0 := t3.fr 0
  have f1 := t3.fr 1
  have f2 := t3.fr 2
  have f3 := t3.fr 3
  have R := Lib.hid (t3.put (.bool false) (.slice none 0 0) (.bool false) (.slice none 0 0))
  have BL := Lib.hid (below_set4 bel (b := w.heap.size) (by omega) (.bool false) (.slice none 0 0) (.bool false) (.slice none 0 0))
  clear t3 bel
  go_wp2_with fail
  have r0 := R.out.c0
  have r1 := R.out.c1
  have r2 := R.out.c2
  have r3 := R.out.c3
  unfold set4 at r0 r1 r2 r3
  refine bodyPost_ret (v := .tuple #[.agg #[.bool false, .slice none 0 0, .bool false, .slice none 0 0], .int .i64 3]) (by simp [results, Tryz.results20, go_sem, r0, r1, r2, r3]) rfl ?_
  exact ⟨rfl, BL.out⟩

set_option maxRecDepth 100000 in
set_option maxHeartbeats 3000000 in
theorem gofr0 {a b : Int} (ha : -9223372036854775808 ≤ a ∧ a ≤ 9223372036854775807) (hb : -9223372036854775808 ≤ b ∧ b ≤ 9223372036854775807) (h0 : b = 0) (w : World) :
    Calls Tryz.prog 19 #[.int .i64 a, .int .i64 b] w fun e w' => e = .returned (.tuple #[ratV false none 0 0 false none 0 0, .int .i64 3]) ∧ Below w.heap.size w w' := by
  unfold ratV
  have HA := Lib.hid (fun W => gofi ha W)
  have HB := Lib.hid (fun W => gofi hb W)
  have HNW := Lib.hid (fun (W : World) (p : Bool) (A : Option Addr) (c : Nat) (l : List Nat) (q : Bool) (B : Option Addr) (d : Nat) (m : List Nat) (h1 : Cn W p A c l a 2) (h2 : Cn W q B d m b 2) => (by have h2 := h2.iv; rw [h0] at h2; exact gnew0 h2 (by decide) : Calls Tryz.prog 17 #[.agg #[.bool p, .slice A l.length c], .agg #[.bool q, .slice B m.length d]] W fun e w' => e = .returned (.tuple #[.agg #[.bool false, .slice none 0 0, .bool false, .slice none 0 0], .int .i64 3]) ∧ Below W.heap.size W w'))
  clear ha hb h0
  go_enter Tryz.func19, Tryz.ntmps19
  go_wp2_with fail
  have t3 : Four (w.alloc (.cells #[.bool false, .slice none 0 0, .bool false, .slice none 0 0] 26)) w.heap.size (.bool false) (.slice none 0 0) (.bool false) (.slice none 0 0) := Four.new_ w (.bool false) (.slice none 0 0) (.bool false) (.slice none 0 0) 26
  have bel : Below w.heap.size w (w.alloc (.cells #[.bool false, .slice none 0 0, .bool false, .slice none 0 0] 26)) := (Below.refl _ _).alloc (Nat.le_refl _) _
  generalize (w.alloc (.cells #[.bool false, .slice none 0 0, .bool false, .slice none 0 0] 26)) = wx at t3 bel ⊢
  refine (HA.out _).mono ?_
  rintro e w2 ⟨p1, A1, c1, l1, rfl, C1, hb⟩
  replace t3 := t3.below hb t3.lt
  replace bel := bel.trans (hb.mono bel.size)
  clear hb
  go_wp2_with fail
  refine (HB.out _).mono ?_
  rintro e w3 ⟨q1, B1, d1, m1, rfl, C2, hb⟩
  replace t3 := t3.below hb t3.lt
  replace bel := bel.trans (hb.mono bel.size)
  replace C1 := C1.below hb
  clear hb
  go_wp2_with fail
  refine (HNW.out _ _ _ _ _ _ _ _ _ C1 C2).mono ?_
  rintro e w4 ⟨rfl, hb⟩
  clear C1 C2
  replace t3 := t3.below hb t3.lt
  replace bel := bel.trans (hb.mono bel.size)
  clear hb
  have d0 := t3.c0
  have d1 := t3.c1
  have d2 := t3.c2
  have d3 := t3.c3
  have f0 := t3.fr 0
  have f1 := t3.fr 1
  have f2 := t3.fr 2
  have f3 := t3.fr 3
  have R := Lib.hid (t3.put (.bool false) (.slice none 0 0) (.bool false) (.slice none 0 0))
  have BL := Lib.hid (below_set4 bel (b := w.heap.size) (by omega) (.bool false) (.slice none 0 0) (.bool false) (.slice none 0 0))
  clear t3 bel
  go_wp2_with fail
  have r0 := R.out.c0
  have r1 := R.out.c1
  have r2 := R.out.c2
  have r3 := R.out.c3
  unfold set4 at r0 r1 r2 r3
  refine bodyPost_ret (v := .tuple #[.agg #[.bool false, .slice none 0 0, .bool false, .slice none 0 0], .int .i64 3]) (by simp [results, Tryz.results19, go_sem, r0, r1, r2, r3]) rfl ?_
  exact ⟨rfl, BL.out⟩
end Go.Proofs.YtpfaddgcfacgdaaGreatDoor
/- Walks of package rational: RationalOf, the law. -/
namespace Go.Proofs.YtpfaddgcfacgdaaGreatDoor
open Go.RowKit
set_option linter.unusedVariables false

set_option maxRecDepth 100000 in
set_option maxHeartbeats 1500000 in
theorem of_zero (a b : Int) (w : World) (ha : -9223372036854775808 ≤ a ∧ a ≤ 9223372036854775807) (hb : -9223372036854775808 ≤ b ∧ b ≤ 9223372036854775807) (ht : Tabs w) (mx : Mx w) (h0 : b = 0) :
    Calls Tryz.prog 5 #[.int .i64 a, .int .i64 b] w fun e w' => e = .returned (.bool true) ∧ Below w.heap.size w w' := by
  have HN1 := Lib.hid (fun (W : World) => (gofr0 ha hb h0 W : Calls Tryz.prog 19 #[.int .i64 a, .int .i64 b] W fun e w' => e = .returned (.tuple #[.agg #[.bool false, .slice none 0 0, .bool false, .slice none 0 0], .int .i64 3]) ∧ Below W.heap.size W w'))
  have HN2 := Lib.hid (fun (W : World) => (grofr0 ha hb h0 W : Calls Tryz.prog 20 #[.int .i64 a, .int .i64 b] W fun e w' => e = .returned (.tuple #[.agg #[.bool false, .slice none 0 0, .bool false, .slice none 0 0], .int .i64 3]) ∧ Below W.heap.size W w'))
  have HS0 : Hid (∀ W : World, Calls Tryz.prog 14 #[.agg #[.bool false, .slice none 0 0, .bool false, .slice none 0 0], .agg #[.bool false, .slice none 0 0, .bool false, .slice none 0 0]] W fun e w' => e = .returned (.bool true) ∧ Below W.heap.size W w') := Lib.hid (fun W => same_raw (Sl.nil _ _) (Sl.nil _ _) (Sl.nil _ _) (Sl.nil _ _) (by decide) (by decide) (by decide) (by decide))
  clear ha hb h0
  have bel : Below w.heap.size w w := Below.refl _ _
  have HK := Lib.hid (rknown_ok w ht mx)
  go_enter Tryz.func5, Tryz.ntmps5
  go_wp2_with fail
  refine (HK.out).mono ?_
  rintro e w2 ⟨rfl, hb⟩
  replace bel := bel.trans (hb.mono bel.size)
  clear hb
  go_wp2_with fail
  refine (HN1.out _).mono ?_
  rintro e w3 ⟨rfl, hb⟩
  replace bel := bel.trans (hb.mono bel.size)
  clear hb
  go_upto_region 4 with (fail)
  have t5 : Four (w3.alloc (.cells #[.bool false, .slice none 0 0, .bool false, .slice none 0 0] 26)) w3.heap.size (.bool false) (.slice none 0 0) (.bool false) (.slice none 0 0) := Four.new_ w3 (.bool false) (.slice none 0 0) (.bool false) (.slice none 0 0) 26
  have bn : Below w3.heap.size w3 (w3.alloc (.cells #[.bool false, .slice none 0 0, .bool false, .slice none 0 0] 26)) := (Below.refl _ _).alloc (Nat.le_refl _) _
  replace bel := bel.trans (bn.mono bel.size)
  clear bn
  generalize (w3.alloc (.cells #[.bool false, .slice none 0 0, .bool false, .slice none 0 0] 26)) = v1 at bel t5 ⊢
  generalize w3.heap.size = g5 at bel t5 ⊢
  go_wp2_with fail
  refine (HN2.out _).mono ?_
  rintro e w4 ⟨rfl, hb⟩
  replace bel := bel.trans (hb.mono bel.size)
  replace t5 := t5.below hb t5.lt
  clear hb
  go_upto_region 5 with (fail)
  have t7 : Four (w4.alloc (.cells #[.bool false, .slice none 0 0, .bool false, .slice none 0 0] 26)) w4.heap.size (.bool false) (.slice none 0 0) (.bool false) (.slice none 0 0) := Four.new_ w4 (.bool false) (.slice none 0 0) (.bool false) (.slice none 0 0) 26
  have bn : Below w4.heap.size w4 (w4.alloc (.cells #[.bool false, .slice none 0 0, .bool false, .slice none 0 0] 26)) := (Below.refl _ _).alloc (Nat.le_refl _) _
  replace bel := bel.trans (bn.mono bel.size)
  replace t5 := t5.below bn t5.lt
  clear bn
  generalize (w4.alloc (.cells #[.bool false, .slice none 0 0, .bool false, .slice none 0 0] 26)) = v2 at bel t5 t7 ⊢
  generalize w4.heap.size = g7 at bel t5 t7 ⊢
  have t5_0 := t5.c0
  have t5_1 := t5.c1
  have t5_2 := t5.c2
  have t5_3 := t5.c3
  have t7_0 := t7.c0
  have t7_1 := t7.c1
  have t7_2 := t7.c2
  have t7_3 := t7.c3
  go_wp2_with fail
  refine (HS0.out _).mono ?_
  rintro e w5 ⟨rfl, hb⟩
  clear t5_0 t5_1 t5_2 t5_3 t7_0 t7_1 t7_2 t7_3
  replace bel := bel.trans (hb.mono bel.size)
  replace t5 := t5.below hb t5.lt
  replace t7 := t7.below hb t7.lt
  clear hb
  go_wp2_with fail
  go_ret
  exact ⟨rfl, bel⟩

set_option maxRecDepth 100000 in
set_option maxHeartbeats 1500000 in
theorem of_ok (a b : Int) (w : World) (ha : -9223372036854775808 ≤ a ∧ a ≤ 9223372036854775807) (hb : -9223372036854775808 ≤ b ∧ b ≤ 9223372036854775807) (ht : Tabs w) (mx : Mx w) (h0 : b ≠ 0) :
    Calls Tryz.prog 5 #[.int .i64 a, .int .i64 b] w fun e w' => e = .returned (.bool true) ∧ Below w.heap.size w w' := by
  obtain ⟨z, hz⟩ : ∃ z, z = Rat.divInt a b := ⟨_, rfl⟩
  have HN1 := Lib.hid (fun (W : World) => (by have h := gofr ha hb h0 W; rw [← hz] at h; exact h : Calls Tryz.prog 19 #[.int .i64 a, .int .i64 b] W (GRc z 2 W)))
  have HN2 := Lib.hid (fun (W : World) => (by have h := grofr ha hb h0 W; rw [← hz] at h; exact h : Calls Tryz.prog 20 #[.int .i64 a, .int .i64 b] W (GRc z 2 W)))
  have HSM := Lib.hid (fun (W : World) (A : Option Addr) (c : Nat) (l : List Nat) (B : Option Addr) (d : Nat) (m : List Nat) (A' : Option Addr) (c' : Nat) (l' : List Nat) (B' : Option Addr) (d' : Nat) (m' : List Nat) (h : Cr W A c l B d m z 2) (h' : Cr W A' c' l' B' d' m' z 2) => (by have h := grsame h h' (by decide) (by decide); rwa [decide_eq_true rfl] at h : Calls Tryz.prog 14 #[.agg #[.bool (decide (z.num < 0)), .slice A l.length c, .bool false, .slice B m.length d], .agg #[.bool (decide (z.num < 0)), .slice A' l'.length c', .bool false, .slice B' m'.length d']] W fun e w' => e = .returned (.bool true) ∧ Below W.heap.size W w'))
  clear hz
  clear ha hb h0
  have bel : Below w.heap.size w w := Below.refl _ _
  have HK := Lib.hid (rknown_ok w ht mx)
  go_enter Tryz.func5, Tryz.ntmps5
  go_wp2_with fail
  refine (HK.out).mono ?_
  rintro e w2 ⟨rfl, hb⟩
  replace bel := bel.trans (hb.mono bel.size)
  clear hb
  go_wp2_with fail
  refine (HN1.out _).mono ?_
  rintro e w3 ⟨A1, c1, l1, B1, d1, m1, rfl, C1, hb⟩
  replace bel := bel.trans (hb.mono bel.size)
  clear hb
  go_upto_region 4 with (fail)
  have t5 : Four (w3.alloc (.cells #[.bool (decide (z.num < 0)), .slice A1 l1.length c1, .bool false, .slice B1 m1.length d1] 26)) w3.heap.size (.bool (decide (z.num < 0))) (.slice A1 l1.length c1) (.bool false) (.slice B1 m1.length d1) := Four.new_ w3 (.bool (decide (z.num < 0))) (.slice A1 l1.length c1) (.bool false) (.slice B1 m1.length d1) 26
  have bn : Below w3.heap.size w3 (w3.alloc (.cells #[.bool (decide (z.num < 0)), .slice A1 l1.length c1, .bool false, .slice B1 m1.length d1] 26)) := (Below.refl _ _).alloc (Nat.le_refl _) _
  replace bel := bel.trans (bn.mono bel.size)
  replace C1 := C1.below bn
  clear bn
  generalize (w3.alloc (.cells #[.bool (decide (z.num < 0)), .slice A1 l1.length c1, .bool false, .slice B1 m1.length d1] 26)) = v1 at bel C1 t5 ⊢
  generalize w3.heap.size = g5 at bel C1 t5 ⊢
  go_wp2_with fail
  refine (HN2.out _).mono ?_
  rintro e w4 ⟨A2, c2, l2, B2', d2, m2, rfl, C2, hb⟩
  replace bel := bel.trans (hb.mono bel.size)
  replace C1 := C1.below hb
  replace t5 := t5.below hb t5.lt
  clear hb
  go_upto_region 5 with (fail)
  have t7 : Four (w4.alloc (.cells #[.bool (decide (z.num < 0)), .slice A2 l2.length c2, .bool false, .slice B2' m2.length d2] 26)) w4.heap.size (.bool (decide (z.num < 0))) (.slice A2 l2.length c2) (.bool false) (.slice B2' m2.length d2) := Four.new_ w4 (.bool (decide (z.num < 0))) (.slice A2 l2.length c2) (.bool false) (.slice B2' m2.length d2) 26
  have bn : Below w4.heap.size w4 (w4.alloc (.cells #[.bool (decide (z.num < 0)), .slice A2 l2.length c2, .bool false, .slice B2' m2.length d2] 26)) := (Below.refl _ _).alloc (Nat.le_refl _) _
  replace bel := bel.trans (bn.mono bel.size)
  replace C1 := C1.below bn
  replace t5 := t5.below bn t5.lt
  replace C2 := C2.below bn
  clear bn
  generalize (w4.alloc (.cells #[.bool (decide (z.num < 0)), .slice A2 l2.length c2, .bool false, .slice B2' m2.length d2] 26)) = v2 at bel C1 t5 C2 t7 ⊢
  generalize w4.heap.size = g7 at bel C1 t5 C2 t7 ⊢
  have t5_0 := t5.c0
  have t5_1 := t5.c1
  have t5_2 := t5.c2
  have t5_3 := t5.c3
  have t7_0 := t7.c0
  have t7_1 := t7.c1
  have t7_2 := t7.c2
  have t7_3 := t7.c3
  go_wp2_with fail
  refine (HSM.out _ _ _ _ _ _ _ _ _ _ _ _ _ C1 C2).mono ?_
  rintro e w5 ⟨rfl, hb⟩
  clear t5_0 t5_1 t5_2 t5_3 t7_0 t7_1 t7_2 t7_3
  replace bel := bel.trans (hb.mono bel.size)
  replace C1 := C1.below hb
  replace t5 := t5.below hb t5.lt
  replace C2 := C2.below hb
  replace t7 := t7.below hb t7.lt
  clear hb
  go_wp2_with fail
  go_ret
  exact ⟨rfl, bel⟩

theorem of_walk (a b : Int) (w : World) (ha : -9223372036854775808 ≤ a ∧ a ≤ 9223372036854775807) (hb : -9223372036854775808 ≤ b ∧ b ≤ 9223372036854775807) (ht : Tabs w) (mx : Mx w) :
    Calls Tryz.prog 5 #[.int .i64 a, .int .i64 b] w fun e w' => e = .returned (.bool true) ∧ Below w.heap.size w w' := by
  by_cases h0 : b = 0
  · exact of_zero a b w ha hb ht mx h0
  · exact of_ok a b w ha hb ht mx h0
end Go.Proofs.YtpfaddgcfacgdaaGreatDoor
