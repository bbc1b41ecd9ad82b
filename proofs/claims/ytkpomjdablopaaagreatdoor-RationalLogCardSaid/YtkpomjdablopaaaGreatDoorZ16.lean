/- My texts, packed: Se, Vl, Y1, LawItx, J8, Sa, Sd. -/
import Derived.Test.YtkpomjdablopaaaGreatDoorZ11
import Derived.Test.YtkpomjdablopaaaGreatDoorZ15
import Derived.Test.YtkpomjdablopaaaGreatDoorZ12
import Derived.Test.YtkpomjdablopaaaGreatDoorZ13
import Derived.Test.YtkpomjdablopaaaGreatDoorZ5
/- Walks of package rational: sameInt and Same of the reference. -/
namespace Go.Proofs.YtkpomjdablopaaaGreatDoor
open Go.RowKit
set_option linter.unusedVariables false

set_option maxRecDepth 100000 in
set_option maxHeartbeats 1000000 in
theorem sameInt_any (p : Bool) (A : Option Addr) (ca : Nat) (a : List Nat) (q : Bool) (B : Option Addr) (cb : Nat) (b : List Nat) (w : World) (ha : Sl w w.heap.size A ca a) (hb : Sl w w.heap.size B cb b) (hla : a.length ≤ 1000000000) (hlb : b.length ≤ 1000000000) :
    Calls Tryz.prog 31 #[.agg #[.bool p, .slice A a.length ca], .agg #[.bool q, .slice B b.length cb]] w fun e w' => e = .returned (.bool (decide (p = q ∧ a = b))) ∧ Below w.heap.size w w' := by
  obtain ⟨R, hR⟩ : ∃ R : Bool, Hid (decide (p = q ∧ a = b) = R) := ⟨_, Lib.hid rfl⟩
  rw [hR.out]
  by_cases hpq : p = q
  · subst hpq
    have hpp : (p != p) = false := by simp
    by_cases hl : a.length = b.length
    · have hle : ((a.length : Int) != (b.length : Int)) = false := by simp [hl]
      have hle2 : (a.length != b.length) = false := by simp [hl]
      have l1 : a.length ≤ b.length := by omega
      have l2 : b.length ≤ a.length := by omega
      have HL := Lib.hid hl
      clear hl
      go_enter Tryz.func31, Tryz.ntmps31
      go_wp2_with fail
      have i := P2.new_ w p A a.length ca p B b.length cb 24
      revert i
      generalize (w.alloc (.cells #[.bool p, .slice A a.length ca] 24)).alloc (.cells #[.bool p, .slice B b.length cb] 24) = w1
      intro i
      have c10 := i.t1.c0
      have c11 := i.t1.c1
      have c20 := i.t2.c0
      have c21 := i.t2.c1
      have hX := (ha.below i.bel).more i.bel.size
      have hY := (hb.below i.bel).more i.bel.size
      go_wp2_with fail
      go_loopw [5] (fun v wr => ∃ k q : Nat, k ≤ a.length ∧ v = .int .i64 (k : Nat) ∧ wr = w1.drewN q ∧ Hid (a.take k = b.take k)) (fun v _ => a.length - (intOf v).toNat)
      case atStart => exact ⟨0, 0, Nat.zero_le _, rfl, rfl, Lib.hid rfl⟩
      case round =>
        obtain ⟨k, q, hk, rfl, rfl, HI⟩ := hrel
        by_cases hlt : k < a.length
        · obtain ⟨b1, o1, x, hA1, hb1, hc1, hx, hxl⟩ := hX.word hlt
          obtain ⟨b2, o2, y, hB2, hb2, hc2, hy, hyl⟩ := hY.word (show k < b.length by omega)
          subst hA1 hB2
          have hltb : k < b.length := by omega
          have k1 : (k : Int) < (a.length : Int) := by omega
          have k2 : (k : Int) < (b.length : Int) := by omega
          by_cases hxy : x = y
          · subst hxy
            have HI2 : Hid (a.take (k + 1) = b.take (k + 1)) := Lib.hid (by rw [Kn.take_snoc a hlt, Kn.take_snoc b hltb, HI.out, ← hx.out, ← hy.out])
            go_wp2_with fail
            go_quiet (fail)
            go_wp2_with fail
            go_roundw
            case rel => exact ⟨k + 1, _, by omega, by go_num, rfl, HI2⟩
            case measure => simp [intOf]; omega
          · have hne : ((x : Int) != (y : Int)) = true := by simp; omega
            have hne2 : (x != y) = true := by simp; omega
            have HF : Hid (false = R) := Lib.hid (by
              rw [← hR.out]
              exact (decide_eq_false (fun h => hxy (by rw [hx.out, hy.out, h.2]))).symm)
            clear hxy
            go_wp2_with fail
            go_quiet (fail)
            go_wp2_with fail
            go_ret
            exact ⟨ret_bool HF.out, bDrew (bDrew i.bel _) _⟩
        · obtain rfl : k = a.length := by omega
          have HT : Hid (true = R) := Lib.hid (by
            rw [← hR.out]
            have e := HI.out
            rw [List.take_of_length_le (Nat.le_refl _), List.take_of_length_le (by omega)] at e
            exact (decide_eq_true ⟨by first | rfl | trivial, e⟩).symm)
          go_wp2_with fail
          go_ret
          exact ⟨ret_bool HT.out, bDrew i.bel _⟩
    · have hle : ((a.length : Int) != (b.length : Int)) = true := by simp; omega
      have hle2 : (a.length != b.length) = true := by simp; omega
      have HF : Hid (false = R) := Lib.hid (by
        rw [← hR.out]
        exact (decide_eq_false (fun h => hl (by rw [h.2]))).symm)
      clear hl
      go_enter Tryz.func31, Tryz.ntmps31
      go_wp2_with fail
      go_ret
      exact ⟨ret_bool HF.out, (P2.new_ w p A a.length ca p B b.length cb 24).bel⟩
  · have HF : Hid (false = R) := Lib.hid (by
      rw [← hR.out]
      exact (decide_eq_false (fun h => hpq h.1)).symm)
    have HP := Lib.hid hpq
    clear hpq hR
    cases p <;> cases q
    · exact absurd rfl HP.out
    · go_enter Tryz.func31, Tryz.ntmps31
      go_wp2_with fail
      go_ret
      exact ⟨ret_bool HF.out, (P2.new_ w false A a.length ca true B b.length cb 24).bel⟩
    · go_enter Tryz.func31, Tryz.ntmps31
      go_wp2_with fail
      go_ret
      exact ⟨ret_bool HF.out, (P2.new_ w true A a.length ca false B b.length cb 24).bel⟩
    · exact absurd rfl HP.out


set_option maxRecDepth 100000 in
set_option maxHeartbeats 3000000 in
theorem same_t {w : World} {p q p' q' : Bool} {A B A' B' : Option Addr} {c d c' d' : Nat} {l m l' m' : List Nat} (h1 : Sl w w.heap.size A c l) (h2 : Sl w w.heap.size B d m) (h3 : Sl w w.heap.size A' c' l') (h4 : Sl w w.heap.size B' d' m') (a1 : l.length ≤ 1000) (a2 : m.length ≤ 1000) (a3 : l'.length ≤ 1000) (a4 : m'.length ≤ 1000)
    (hh : (p = p' ∧ l = l')) :
    Calls Tryz.prog 11 #[ratV p A l.length c q B m.length d, ratV p' A' l'.length c' q' B' m'.length d'] w fun e w' => e = .returned (.bool (decide ((p = p' ∧ l = l') ∧ (q = q' ∧ m = m')))) ∧ Below w.heap.size w w' := by
  obtain ⟨R, hR⟩ : ∃ R : Bool, Hid (decide (q = q' ∧ m = m') = R) := ⟨_, Lib.hid rfl⟩
  have H1 := Lib.hid (fun (W : World) (ha : Sl W W.heap.size A c l) (hb : Sl W W.heap.size A' c' l') => (by have h := sameInt_any p A c l p' A' c' l' W ha hb (by omega) (by omega); rwa [decide_eq_true hh] at h : Calls Tryz.prog 31 #[.agg #[.bool p, .slice A l.length c], .agg #[.bool p', .slice A' l'.length c']] W fun e w' => e = .returned (.bool true) ∧ Below W.heap.size W w'))
  have H2 := Lib.hid (fun (W : World) (ha : Sl W W.heap.size B d m) (hb : Sl W W.heap.size B' d' m') => (by have h := sameInt_any q B d m q' B' d' m' W ha hb (by omega) (by omega); rwa [hR.out] at h : Calls Tryz.prog 31 #[.agg #[.bool q, .slice B m.length d], .agg #[.bool q', .slice B' m'.length d']] W fun e w' => e = .returned (.bool R) ∧ Below W.heap.size W w'))
  have HR : Hid (R = decide ((p = p' ∧ l = l') ∧ (q = q' ∧ m = m'))) := Lib.hid (by rw [← hR.out, decide_eq_decide]; exact ⟨fun h => ⟨hh, h⟩, fun h => h.2⟩)
  rw [← HR.out]
  clear hh a1 a2 a3 a4 hR
  unfold ratV
  go_enter Tryz.func11, Tryz.ntmps11
  go_wp2_with fail
  have t1 : Four ((w.alloc (.cells #[.bool p, .slice A l.length c, .bool q, .slice B m.length d] 26)).alloc (.cells #[.bool p', .slice A' l'.length c', .bool q', .slice B' m'.length d'] 26)) w.heap.size (.bool p) (.slice A l.length c) (.bool q) (.slice B m.length d) := (Four.new_ w (.bool p) (.slice A l.length c) (.bool q) (.slice B m.length d) 26).alloc _
  have t2 : Four ((w.alloc (.cells #[.bool p, .slice A l.length c, .bool q, .slice B m.length d] 26)).alloc (.cells #[.bool p', .slice A' l'.length c', .bool q', .slice B' m'.length d'] 26)) (w.heap.size + 1) (.bool p') (.slice A' l'.length c') (.bool q') (.slice B' m'.length d') := by simpa only [World.size_alloc, Nat.add_assoc, Nat.reduceAdd] using Four.new_ (w.alloc (.cells #[.bool p, .slice A l.length c, .bool q, .slice B m.length d] 26)) (.bool p') (.slice A' l'.length c') (.bool q') (.slice B' m'.length d') 26
  have bel : Below w.heap.size w ((w.alloc (.cells #[.bool p, .slice A l.length c, .bool q, .slice B m.length d] 26)).alloc (.cells #[.bool p', .slice A' l'.length c', .bool q', .slice B' m'.length d'] 26)) := ((Below.refl _ _).alloc (Nat.le_refl _) _).alloc (by simp only [World.size_alloc]; omega) _
  generalize ((w.alloc (.cells #[.bool p, .slice A l.length c, .bool q, .slice B m.length d] 26)).alloc (.cells #[.bool p', .slice A' l'.length c', .bool q', .slice B' m'.length d'] 26)) = wx at t1 t2 bel ⊢
  have X1 := h1.at_ bel (Nat.le_refl _)
  have X2 := h3.at_ bel (Nat.le_refl _)
  have t1_0 := t1.c0
  have t1_1 := t1.c1
  have t1_2 := t1.c2
  have t1_3 := t1.c3
  have t2_0 := t2.c0
  have t2_1 := t2.c1
  have t2_2 := t2.c2
  have t2_3 := t2.c3
  go_wp2_with fail
  refine (H1.out _ X1 X2).mono ?_
  rintro e w2 ⟨rfl, hb⟩
  clear t1_0 t1_1 t1_2 t1_3 t2_0 t2_1 t2_2 t2_3
  replace t1 := t1.below hb t1.lt
  replace t2 := t2.below hb t2.lt
  replace bel := bel.trans (hb.mono bel.size)
  clear hb
  clear X1 X2
  have X1 := h2.at_ bel (Nat.le_refl _)
  have X2 := h4.at_ bel (Nat.le_refl _)
  have t1_0 := t1.c0
  have t1_1 := t1.c1
  have t1_2 := t1.c2
  have t1_3 := t1.c3
  have t2_0 := t2.c0
  have t2_1 := t2.c1
  have t2_2 := t2.c2
  have t2_3 := t2.c3
  go_wp2_with fail
  refine (H2.out _ X1 X2).mono ?_
  rintro e w3 ⟨rfl, hb⟩
  clear t1_0 t1_1 t1_2 t1_3 t2_0 t2_1 t2_2 t2_3
  replace t1 := t1.below hb t1.lt
  replace t2 := t2.below hb t2.lt
  replace bel := bel.trans (hb.mono bel.size)
  clear hb
  go_wp2_with fail
  go_ret
  exact ⟨rfl, bel⟩
set_option maxRecDepth 100000 in
set_option maxHeartbeats 3000000 in
theorem same_f {w : World} {p q p' q' : Bool} {A B A' B' : Option Addr} {c d c' d' : Nat} {l m l' m' : List Nat} (h1 : Sl w w.heap.size A c l) (h2 : Sl w w.heap.size B d m) (h3 : Sl w w.heap.size A' c' l') (h4 : Sl w w.heap.size B' d' m') (a1 : l.length ≤ 1000) (a2 : m.length ≤ 1000) (a3 : l'.length ≤ 1000) (a4 : m'.length ≤ 1000)
    (hh : ¬ (p = p' ∧ l = l')) :
    Calls Tryz.prog 11 #[ratV p A l.length c q B m.length d, ratV p' A' l'.length c' q' B' m'.length d'] w fun e w' => e = .returned (.bool (decide ((p = p' ∧ l = l') ∧ (q = q' ∧ m = m')))) ∧ Below w.heap.size w w' := by
  obtain ⟨R, hR⟩ : ∃ R : Bool, Hid (decide (q = q' ∧ m = m') = R) := ⟨_, Lib.hid rfl⟩
  have H1 := Lib.hid (fun (W : World) (ha : Sl W W.heap.size A c l) (hb : Sl W W.heap.size A' c' l') => (by have h := sameInt_any p A c l p' A' c' l' W ha hb (by omega) (by omega); rwa [decide_eq_false hh] at h : Calls Tryz.prog 31 #[.agg #[.bool p, .slice A l.length c], .agg #[.bool p', .slice A' l'.length c']] W fun e w' => e = .returned (.bool false) ∧ Below W.heap.size W w'))
  have HR : Hid (false = decide ((p = p' ∧ l = l') ∧ (q = q' ∧ m = m'))) := Lib.hid (by exact (decide_eq_false (fun h => hh h.1)).symm)
  rw [← HR.out]
  clear hh a1 a2 a3 a4 hR
  unfold ratV
  go_enter Tryz.func11, Tryz.ntmps11
  go_wp2_with fail
  have t1 : Four ((w.alloc (.cells #[.bool p, .slice A l.length c, .bool q, .slice B m.length d] 26)).alloc (.cells #[.bool p', .slice A' l'.length c', .bool q', .slice B' m'.length d'] 26)) w.heap.size (.bool p) (.slice A l.length c) (.bool q) (.slice B m.length d) := (Four.new_ w (.bool p) (.slice A l.length c) (.bool q) (.slice B m.length d) 26).alloc _
  have t2 : Four ((w.alloc (.cells #[.bool p, .slice A l.length c, .bool q, .slice B m.length d] 26)).alloc (.cells #[.bool p', .slice A' l'.length c', .bool q', .slice B' m'.length d'] 26)) (w.heap.size + 1) (.bool p') (.slice A' l'.length c') (.bool q') (.slice B' m'.length d') := by simpa only [World.size_alloc, Nat.add_assoc, Nat.reduceAdd] using Four.new_ (w.alloc (.cells #[.bool p, .slice A l.length c, .bool q, .slice B m.length d] 26)) (.bool p') (.slice A' l'.length c') (.bool q') (.slice B' m'.length d') 26
  have bel : Below w.heap.size w ((w.alloc (.cells #[.bool p, .slice A l.length c, .bool q, .slice B m.length d] 26)).alloc (.cells #[.bool p', .slice A' l'.length c', .bool q', .slice B' m'.length d'] 26)) := ((Below.refl _ _).alloc (Nat.le_refl _) _).alloc (by simp only [World.size_alloc]; omega) _
  generalize ((w.alloc (.cells #[.bool p, .slice A l.length c, .bool q, .slice B m.length d] 26)).alloc (.cells #[.bool p', .slice A' l'.length c', .bool q', .slice B' m'.length d'] 26)) = wx at t1 t2 bel ⊢
  have X1 := h1.at_ bel (Nat.le_refl _)
  have X2 := h3.at_ bel (Nat.le_refl _)
  have t1_0 := t1.c0
  have t1_1 := t1.c1
  have t1_2 := t1.c2
  have t1_3 := t1.c3
  have t2_0 := t2.c0
  have t2_1 := t2.c1
  have t2_2 := t2.c2
  have t2_3 := t2.c3
  go_wp2_with fail
  refine (H1.out _ X1 X2).mono ?_
  rintro e w2 ⟨rfl, hb⟩
  clear t1_0 t1_1 t1_2 t1_3 t2_0 t2_1 t2_2 t2_3
  replace t1 := t1.below hb t1.lt
  replace t2 := t2.below hb t2.lt
  replace bel := bel.trans (hb.mono bel.size)
  clear hb
  clear X1 X2
  go_wp2_with fail
  go_ret
  exact ⟨rfl, bel⟩
theorem same_raw {w : World} {p q p' q' : Bool} {A B A' B' : Option Addr} {c d c' d' : Nat} {l m l' m' : List Nat} (h1 : Sl w w.heap.size A c l) (h2 : Sl w w.heap.size B d m) (h3 : Sl w w.heap.size A' c' l') (h4 : Sl w w.heap.size B' d' m') (a1 : l.length ≤ 1000) (a2 : m.length ≤ 1000) (a3 : l'.length ≤ 1000) (a4 : m'.length ≤ 1000) :
    Calls Tryz.prog 11 #[ratV p A l.length c q B m.length d, ratV p' A' l'.length c' q' B' m'.length d'] w fun e w' => e = .returned (.bool (decide ((p = p' ∧ l = l') ∧ (q = q' ∧ m = m')))) ∧ Below w.heap.size w w' := by
  by_cases hh : p = p' ∧ l = l'
  · exact same_t h1 h2 h3 h4 a1 a2 a3 a4 hh
  · exact same_f h1 h2 h3 h4 a1 a2 a3 a4 hh
theorem grsame {w : World} {A : Option Addr} {c : Nat} {l : List Nat} {B : Option Addr} {d : Nat} {m : List Nat} {z : Rat} {n : Nat} {A' : Option Addr} {c' : Nat} {l' : List Nat} {B' : Option Addr} {d' : Nat} {m' : List Nat} {z' : Rat} {n' : Nat}
    (h : Cr w A c l B d m z n) (h' : Cr w A' c' l' B' d' m' z' n') (hn : n ≤ 1000) (hn' : n' ≤ 1000) :
    Calls Tryz.prog 11 #[ratV (decide (z.num < 0)) A l.length c false B m.length d, ratV (decide (z'.num < 0)) A' l'.length c' false B' m'.length d'] w fun e w' => e = .returned (.bool (decide (z = z'))) ∧ Below w.heap.size w w' := by
  have h1 := same_raw h.a.iv.sl h.b.iv.sl h'.a.iv.sl h'.b.iv.sl (p := decide (z.num < 0)) (q := false) (p' := decide (z'.num < 0)) (q' := false) (by have := h.a.iv.len; omega) (by have := h.b.iv.len; omega) (by have := h'.a.iv.len; omega) (by have := h'.b.iv.len; omega)
  have e : decide ((decide (z.num < 0) = decide (z'.num < 0) ∧ l = l') ∧ (false = false ∧ m = m')) = decide (z = z') := by
    rw [decide_eq_decide]
    constructor
    · rintro ⟨⟨e1, e2⟩, _, e3⟩
      refine Rat.ext ?_ ?_
      · rw [← h.a.iv.val, ← h'.a.iv.val, e1, e2]
      · have : (z.den : Int) = (z'.den : Int) := by rw [← h.b.iv.val, ← h'.b.iv.val, e3]
        omega
    · rintro rfl
      exact ⟨⟨rfl, by rw [h.a.can.2, h'.a.can.2]⟩, rfl, by rw [h.b.can.2, h'.b.can.2]⟩
  rw [e] at h1
  exact h1
end Go.Proofs.YtkpomjdablopaaaGreatDoor
/- The functions of package rational over fractions in memory, in terms of their values. -/
namespace Go.Proofs.YtkpomjdablopaaaGreatDoor
open Go.RowKit
set_option linter.unusedVariables false

/-- a fraction with the value z, in whatever form, of at most n words in each part -/
def Rv (W : World) (p : Bool) (A : Option Addr) (c : Nat) (l : List Nat) (q : Bool) (B : Option Addr) (d : Nat) (m : List Nat) (z : Rat) (n : Nat) : Prop :=
  ∃ x y, Iv W p A c l x n ∧ Iv W q B d m y n ∧ Rat.divInt x y = z
section
variable {W W' : World} {p q p' q' : Bool} {A B A' B' : Option Addr} {c d c' d' : Nat} {l m l' m' : List Nat} {z z' : Rat} {n k : Nat}
theorem Rv.below (h : Rv W p A c l q B d m z n) (hb : Below W.heap.size W W') : Rv W' p A c l q B d m z n := by
  obtain ⟨x, y, hx, hy, hz⟩ := h; exact ⟨x, y, hx.below hb, hy.below hb, hz⟩
theorem Rv.drew (h : Rv W p A c l q B d m z n) : Rv W.drew p A c l q B d m z n := by
  obtain ⟨x, y, hx, hy, hz⟩ := h; exact ⟨x, y, hx.drew, hy.drew, hz⟩
theorem Rv.put4 (h : Rv W p A c l q B d m z n) {b : Nat} {r s : Bool} {C D : Option Addr} {e f g i : Nat} (t : Four W b (.bool r) (.slice C e f) (.bool s) (.slice D g i)) (x' y' u' v' : Value) : Rv (set4 W b x' y' u' v') p A c l q B d m z n := by
  obtain ⟨x, y, hx, hy, hz⟩ := h; exact ⟨x, y, hx.put4 t _ _ _ _, hy.put4 t _ _ _ _, hz⟩
theorem Cr.rv (h : Cr W A c l B d m z n) : Rv W (decide (z.num < 0)) A c l false B d m z n := ⟨_, _, h.a.iv, h.b.iv, rq_self z⟩
theorem radd (h : Rv W p A c l q B d m z n) (h' : Rv W p' A' c' l' q' B' d' m' z' k) (hn : n ≤ 49) (hn1 : 1 ≤ n) (hk : k ≤ 49) (hk1 : 1 ≤ k) :
    Calls Tryz.prog 20 #[ratV p A l.length c q B m.length d, ratV p' A' l'.length c' q' B' m'.length d'] W (GR (z + z') (n + k + 1) W) := by
  obtain ⟨x, y, hx, hy, hz⟩ := h
  obtain ⟨x', y', hx', hy', hz'⟩ := h'
  rw [← hz, ← hz']; exact graddr hx hy hx' hy' hn hn1 hk hk1
theorem rsgn (h : Rv W p A c l q B d m z n) (hn : n ≤ 100) :
    Calls Tryz.prog 38 #[ratV p A l.length c q B m.length d] W fun e w' => e = .returned (.int .i64 z.num.sign) ∧ Below W.heap.size W w' := by
  obtain ⟨x, y, hx, hy, hz⟩ := h
  rw [← hz]; exact grsgn hx hy hn
theorem rcln (h : Rv W p A c l q B d m z n) (hn : n ≤ 100) (hn1 : 1 ≤ n) : Calls Tryz.prog 21 #[ratV p A l.length c q B m.length d] W (GR z n W) := by
  obtain ⟨x, y, hx, hy, hz⟩ := h
  rw [← hz]; exact grcl hx hy hn hn1
theorem rsame (h : Cr W A c l B d m z n) (h' : Cr W A' c' l' B' d' m' z' k) (hn : n ≤ 1000) (hk : k ≤ 1000) (hz : z = z') :
    Calls Tryz.prog 11 #[ratV (decide (z.num < 0)) A l.length c false B m.length d, ratV (decide (z'.num < 0)) A' l'.length c' false B' m'.length d'] W fun e w' => e = .returned (.bool true) ∧ Below W.heap.size W w' := by
  have h1 := grsame h h' hn hk
  rwa [decide_eq_true hz] at h1
end
set_option maxRecDepth 100000 in
theorem gfew (p : Bool) (A : Option Addr) (c n : Nat) (q : Bool) (B : Option Addr) (d m : Nat) (F : Bool) (hF : Hid (decide (n ≤ 4 ∧ m ≤ 4) = F)) (w : World) :
    Calls Tryz.prog 7 #[ratV p A n c q B m d] w fun e w' => e = .returned (.bool F) ∧ Below w.heap.size w w' := by
  unfold ratV
  by_cases h1 : n ≤ 4
  · have e1 : decide ((n : Int) ≤ 4) = true := decide_eq_true (by omega)
    have k1 : (n : Int) ≤ 4 := by omega
    by_cases h2 : m ≤ 4
    · obtain rfl : true = F := by rw [← hF.out]; exact (decide_eq_true ⟨h1, h2⟩).symm
      have e2 : decide ((m : Int) ≤ 4) = true := decide_eq_true (by omega)
      have k2 : (m : Int) ≤ 4 := by omega
      clear h1 h2
      go_enter Tryz.func7, Tryz.ntmps7
      go_wp2_with fail
      go_ret
      exact ⟨rfl, al1 _ _⟩
    · obtain rfl : false = F := by rw [← hF.out]; exact (decide_eq_false (fun h => h2 h.2)).symm
      have e2 : decide ((m : Int) ≤ 4) = false := decide_eq_false (by omega)
      have k2 : ¬ (m : Int) ≤ 4 := by omega
      clear h1 h2
      go_enter Tryz.func7, Tryz.ntmps7
      go_wp2_with fail
      go_ret
      exact ⟨rfl, al1 _ _⟩
  · obtain rfl : false = F := by rw [← hF.out]; exact (decide_eq_false (fun h => h1 h.1)).symm
    have e1 : decide ((n : Int) ≤ 4) = false := decide_eq_false (by omega)
    have k1 : ¬ (n : Int) ≤ 4 := by omega
    clear h1
    go_enter Tryz.func7, Tryz.ntmps7
    go_wp2_with fail
    go_ret
    exact ⟨rfl, al1 _ _⟩
end Go.Proofs.YtkpomjdablopaaaGreatDoor
/- Walks of package rational: powers of two as fractions. -/
namespace Go.Proofs.YtkpomjdablopaaaGreatDoor
open Go.RowKit
set_option linter.unusedVariables false

/-- two to the k-th -/
def p2 (k : Int) : Rat := Rat.divInt ((2 ^ k.toNat : Nat) : Int) ((2 ^ (-k).toNat : Nat) : Int)
theorem pow_pos2 (a : Nat) : (0 : Int) < ((2 ^ a : Nat) : Int) := by have := Nat.pow_pos (n := a) (show 0 < 2 by decide); omega
theorem p2_zero : p2 0 = Rat.divInt 1 1 := rfl
theorem p2_up (j : Nat) : p2 (j : Int) * Rat.divInt 2 1 = p2 ((j + 1 : Nat) : Int) := by
  unfold p2
  rw [Rat.divInt_mul_divInt, show (-(j : Int)).toNat = 0 by omega, show (-((j + 1 : Nat) : Int)).toNat = 0 by omega, Int.toNat_natCast, Int.toNat_natCast, Nat.pow_succ, Int.natCast_mul]
  rfl
theorem p2_dn (j : Nat) : p2 (-(j : Int)) * Rat.divInt 1 2 = p2 (-((j + 1 : Nat) : Int)) := by
  unfold p2
  rw [Rat.divInt_mul_divInt, Int.neg_neg, Int.neg_neg, show (-(j : Int)).toNat = 0 by omega, show (-((j + 1 : Nat) : Int)).toNat = 0 by omega, Int.toNat_natCast, Int.toNat_natCast, Nat.pow_succ, Int.natCast_mul]
  rfl
theorem pw_two (k : Nat) : Kn.pw k = 2 ^ (32 * k) := by unfold Kn.pw; rw [Nat.pow_mul]
theorem p2_size {k : Int} (h : -200 ≤ k ∧ k ≤ 200) : (p2 k).num.natAbs < Kn.pw 7 ∧ (p2 k).den < Kn.pw 7 := by
  obtain ⟨e1, e2⟩ := rq_num_le (n := ((2 ^ k.toNat : Nat) : Int)) (Int.ne_of_gt (pow_pos2 (-k).toNat))
  have f1 : 2 ^ k.toNat < 2 ^ (32 * 7) := Nat.pow_lt_pow_right (by decide) (by omega)
  have f2 : 2 ^ (-k).toNat < 2 ^ (32 * 7) := Nat.pow_lt_pow_right (by decide) (by omega)
  rw [Int.natAbs_natCast] at e1 e2
  rw [pw_two]
  exact ⟨Nat.lt_of_le_of_lt e1 f1, Nat.lt_of_le_of_lt e2 f2⟩
theorem p2_cmp (k : Int) (z : Rat) : (0 < (p2 k - z).num.sign ↔ ¬ leP k z.num.natAbs z.den) ∧ ((p2 k - z).num.sign < 0 ↔ ltP k z.num.natAbs z.den) ∨ ¬ 0 < z.num := by
  by_cases hz : 0 < z.num
  · left
    have e := rq_cmp (x1 := ((2 ^ k.toNat : Nat) : Int)) (x2 := z.num) (pow_pos2 (-k).toNat) (rq_den_pos z)
    rw [rq_self] at e
    have e' : (p2 k - z).num.sign = _ := e
    rw [e']
    unfold leP ltP
    obtain ⟨X, hX⟩ : ∃ X : Nat, z.num = (X : Int) := ⟨z.num.toNat, by omega⟩
    rw [hX, Int.natAbs_natCast, ← Int.natCast_mul, ← Int.natCast_mul]
    generalize 2 ^ k.toNat * z.den = a
    generalize X * 2 ^ (-k).toNat = b
    rcases Int.lt_trichotomy ((a : Int) - (b : Int)) 0 with h | h | h
    · rw [Int.sign_eq_neg_one_of_neg h]; omega
    · rw [h]; show (0 < (0 : Int) ↔ _) ∧ ((0 : Int) < 0 ↔ _); omega
    · rw [Int.sign_eq_one_of_pos h]; omega
  · exact Or.inr hz
theorem Cr.re {W : World} {A B : Option Addr} {c d : Nat} {l m : List Nat} {z : Rat} {n k : Nat} (h : Cr W A c l B d m z n) (h1 : z.num.natAbs < Kn.pw k) (h2 : z.den < Kn.pw k) : Cr W A c l B d m z k :=
  ⟨cn_re h.a h1, cn_re h.b (by rw [Int.natAbs_natCast]; exact h2)⟩
theorem GR.re7 {k : Int} {n : Nat} {W : World} {e : Ending} {W' : World} (h : GR (p2 k) n W e W') (hk : -200 ≤ k ∧ k ≤ 200) : GR (p2 k) 7 W e W' := by
  obtain ⟨A, c, l, B, d, m, he, hc, hb⟩ := h
  exact ⟨A, c, l, B, d, m, he, hc.re (p2_size hk).1 (p2_size hk).2, hb⟩
/-- how large the logarithm of a fraction of four words can be -/
theorem log_range {z : Rat} (h0 : 0 < z.num) (h1 : z.num.natAbs < Kn.pw 4) (h2 : z.den < Kn.pw 4) : leP (-128) z.num.natAbs z.den ∧ ¬ leP 128 z.num.natAbs z.den := by
  rw [pw_two] at h1 h2
  have hd := z.den_nz
  have hx : 1 ≤ z.num.natAbs := by omega
  have hy : 1 ≤ z.den := by omega
  generalize z.num.natAbs = X at *
  generalize z.den = Y at *
  unfold leP
  constructor
  · have := Nat.mul_le_mul_right (2 ^ 128) hx
    show 2 ^ 0 * Y ≤ X * 2 ^ 128
    omega
  · have := Nat.mul_le_mul_left (2 ^ 128) hy
    show ¬ 2 ^ 128 * Y ≤ X * 2 ^ 0
    omega
/-- the parts of a fraction of four words -/
theorem Rv.few4 {W : World} {p q : Bool} {A B : Option Addr} {c d : Nat} {l m : List Nat} {z : Rat} (h : Rv W p A c l q B d m z 4) : z.num.natAbs < Kn.pw 4 ∧ z.den < Kn.pw 4 := by
  obtain ⟨x, y, hx, hy, rfl⟩ := h
  have a1 := hx.abs
  have a2 := hy.abs
  by_cases hy : y = 0
  · subst hy; rw [Rat.divInt_zero]; exact by decide +kernel
  · have := rq_num_le (n := x) hy
    exact ⟨by omega, by omega⟩
end Go.Proofs.YtkpomjdablopaaaGreatDoor
/- The law IntegerTexts, walked: the text of an integer is its decimal form and is parsed as the integer. -/
namespace Go.Proofs.YtkpomjdablopaaaGreatDoor
open Go.RowKit
set_option linter.unusedVariables false

theorem Kt.canon_isNum {t : List UInt8} (h : Kt.canon t) : Kt.isNum t = true := by
  unfold Kt.isNum
  rw [Bool.and_eq_true, Bool.or_eq_true, Bool.and_eq_true]
  refine ⟨h.2.1, ?_⟩
  cases t with
  | nil => exact absurd rfl h.1
  | cons c r =>
    by_cases hc : c = 48
    · subst hc
      rcases h.2.2 with h3 | h3
      · have : r = [] := List.eq_nil_of_length_eq_zero (by simpa using h3)
        subst this
        exact .inl rfl
      · exact absurd rfl h3
    · exact .inr ⟨rfl, by simp [hc]⟩
theorem Kt.neg_dec (n : Nat) : Kt.negB (Lib.decDigits n) = false := by
  have h1 := Kt.dec_dig n
  unfold Kt.negB
  cases hl : Lib.decDigits n with
  | nil => rfl
  | cons c r =>
    rw [hl, List.all_cons, Bool.and_eq_true] at h1
    have h2 := h1.1
    unfold Kt.digC at h2
    simp at h2
    have : c ≠ 45 := fun e => by subst e; exact absurd h2.1 (by decide)
    simp [this]
theorem Kt.pZ_dec {n : Nat} (h : (Lib.decDigits n).length ≤ 600) : Kt.pZ (Lib.decDigits n) = (0, (n : Int)) := by
  have hn := Kt.neg_dec n
  have hb : Kt.body (Lib.decDigits n) = Lib.decDigits n := by unfold Kt.body; rw [hn]; rfl
  unfold Kt.pZ
  rw [if_neg (by omega), hb, hn, Kt.canon_isNum (Kt.dec_canon n), if_neg (by simp), if_neg (by omega), Kt.dec_val]
  rfl
theorem Kt.pZ_neg {n : Nat} (h0 : 0 < n) (h : (Lib.decDigits n).length ≤ 600) : Kt.pZ (45 :: Lib.decDigits n) = (0, -(n : Int)) := by
  have hn : Kt.negB (45 :: Lib.decDigits n) = true := rfl
  have hb : Kt.body (45 :: Lib.decDigits n) = Lib.decDigits n := by unfold Kt.body; rw [hn]; rfl
  have h48 : (Lib.decDigits n == [48]) = false := by
    rw [beq_eq_false_iff_ne]
    intro e
    have := Kt.dec_val n
    rw [e] at this
    have e2 : Kt.valN [48] = 0 := rfl
    omega
  unfold Kt.pZ
  rw [if_neg (by rw [List.length_cons]; omega), hb, hn, Kt.canon_isNum (Kt.dec_canon n), h48, if_neg (by simp), if_neg (by omega), Kt.dec_val]
  rfl
theorem Kt.pZ_itoa {z : Int} (h : (Lib.decDigits z.natAbs).length ≤ 600) : Kt.pZ (Lib.itoa z) = (0, z) ∧ (Lib.itoa z).length ≤ (Lib.decDigits z.natAbs).length + 1 := by
  rcases Int.lt_or_le z 0 with hz | hz
  · obtain ⟨n, hn, rfl⟩ : ∃ n : Nat, 0 < n ∧ z = -(n : Int) := ⟨z.natAbs, by omega, by omega⟩
    rw [Int.natAbs_neg, Int.natAbs_natCast] at h ⊢
    rw [Lib.itoa_neg n hn]
    exact ⟨Kt.pZ_neg hn h, by first | exact Nat.le_refl _ | simp⟩
  · obtain ⟨n, rfl⟩ : ∃ n : Nat, z = (n : Int) := ⟨z.natAbs, by omega⟩
    rw [Int.natAbs_natCast] at h ⊢
    rw [Lib.itoa_nonneg]
    exact ⟨Kt.pZ_dec h, by omega⟩
theorem dec_ten {n : Nat} (h : n < Kn.pw 10) : (Lib.decDigits n).length ≤ 100 :=
  Kn.dec_len (k := 99) (Nat.lt_trans h (by decide +kernel))

/-- two boxes -/
structure Bt (w wr : World) (g : Nat) (p1 : Bool) (a1 : Option Addr) (n1 c1 : Nat) (p2 : Bool) (a2 : Option Addr) (n2 c2 : Nat) : Prop where
  t1 : Two wr w.heap.size (.bool p1) (.slice a1 n1 c1)
  t2 : Two wr g (.bool p2) (.slice a2 n2 c2)
  bel : Below w.heap.size w wr
section
variable {w wr wx : World} {g : Nat} {p1 p2 : Bool} {a1 a2 : Option Addr} {n1 c1 n2 c2 : Nat}
theorem Bt.below (h : Bt w wr g p1 a1 n1 c1 p2 a2 n2 c2) (hb : Below wr.heap.size wr wx) : Bt w wx g p1 a1 n1 c1 p2 a2 n2 c2 := ⟨h.t1.below hb h.t1.lt, h.t2.below hb h.t2.lt, h.bel.trans (hb.mono h.bel.size)⟩
theorem Bt.drew (h : Bt w wr g p1 a1 n1 c1 p2 a2 n2 c2) : Bt w wr.drew g p1 a1 n1 c1 p2 a2 n2 c2 := ⟨h.t1.drew, h.t2.drew, bDrew1 h.bel⟩
end

end Go.Proofs.YtkpomjdablopaaaGreatDoor
/- Walks of package rational: what Parse makes of the text of a fraction. -/
namespace Go.Proofs.YtkpomjdablopaaaGreatDoor
open Go.RowKit
set_option linter.unusedVariables false

namespace Kt
theorem no47 (z : Int) : ∀ x ∈ Lib.itoa z, x ≠ 47 := by
  have hd : ∀ n : Nat, ∀ x ∈ Lib.decDigits n, x ≠ 47 := by
    intro n x hx e
    have h := List.all_eq_true.1 (dec_dig n) x hx
    rw [e] at h
    exact absurd h (by decide)
  rcases Int.lt_or_le z 0 with hz | hz
  · obtain ⟨n, rfl⟩ : ∃ n : Nat, z = -(n : Int) := ⟨z.natAbs, by omega⟩
    rw [Lib.itoa_neg n (by omega)]
    intro x hx
    rcases List.mem_cons.1 hx with e | e
    · rw [e]; decide
    · exact hd n x e
  · obtain ⟨n, rfl⟩ : ∃ n : Nat, z = (n : Int) := ⟨z.natAbs, by omega⟩
    rw [Lib.itoa_nonneg]; exact hd n
theorem pZ_parts {t : List UInt8} {v : Int} (h : pZ t = (0, v)) (hl : t.length ≤ 601) : isNum (body t) = true ∧ (negB t && body t == [48]) = false ∧ (if negB t then -((valN (body t) : Nat) : Int) else ((valN (body t) : Nat) : Int)) = v := by
  unfold pZ at h
  rw [if_neg (by omega)] at h
  by_cases h2 : (!isNum (body t) || (negB t && body t == [48])) = true
  · rw [if_pos h2] at h; cases h
  rw [if_neg h2] at h
  by_cases h3 : 600 < (body t).length
  · rw [if_pos h3] at h; cases h
  rw [if_neg h3] at h
  injection h with _ h
  rw [Bool.or_eq_true, not_or, Bool.not_eq_true', Bool.not_eq_false] at h2
  exact ⟨h2.1, by rw [← Bool.not_eq_true]; exact h2.2, h⟩
theorem dec39 {n : Nat} (h : n < Kn.pw 4) : (Lib.decDigits n).length ≤ 39 := Kn.dec_len (k := 38) (Nat.lt_of_lt_of_le h (by decide +kernel))
theorem itoa39 {z : Int} (h : z.natAbs < Kn.pw 4) : isNum (body (Lib.itoa z)) = true ∧ (negB (Lib.itoa z) && body (Lib.itoa z) == [48]) = false ∧ (if negB (Lib.itoa z) then -((valN (body (Lib.itoa z)) : Nat) : Int) else ((valN (body (Lib.itoa z)) : Nat) : Int)) = z ∧ (Lib.itoa z).length ≤ 40 := by
  have hl := dec39 h
  have hp := pZ_itoa (z := z) (by omega)
  have h2 := pZ_parts hp.1 (by omega)
  exact ⟨h2.1, h2.2.1, h2.2.2, by omega⟩
end Kt
theorem pr_rtxt (z : Rat) (h1 : z.num.natAbs < Kn.pw 4) (h2 : z.den < Kn.pw 4) : Kt.prG (rtxt z) = true ∧ Kt.prY (rtxt z) ≠ 0 ∧ Rat.divInt (Kt.prX (rtxt z)) (Kt.prY (rtxt z) : Int) = z ∧ (rtxt z).length ≤ 80 := by
  obtain ⟨a1, a2, a3, a4⟩ := Kt.itoa39 h1
  have hs := rq_self z
  unfold rtxt
  by_cases hd : z.den = 1
  · rw [if_pos hd]
    obtain ⟨c1, c2⟩ := Kt.cutB (Lib.itoa z.num) (Kt.no47 _)
    have eD : Kt.prD (Lib.itoa z.num) = Kt.body (Lib.itoa z.num) := by unfold Kt.prD; rw [c1]
    have eY : Kt.prY (Lib.itoa z.num) = 1 := by unfold Kt.prY; rw [c2]; rfl
    refine ⟨pr_true (by rw [eD]; exact a1) (by rw [c2]; rfl) (by rw [eD]; exact a2), by rw [eY]; decide, ?_, by omega⟩
    have eX : Kt.prX (Lib.itoa z.num) = z.num := by unfold Kt.prX; rw [eD]; exact a3
    rw [eX, eY]
    rw [hd] at hs
    exact hs
  · rw [if_neg hd]
    obtain ⟨b1, b2, b3, b4⟩ := Kt.itoa39 (z := (z.den : Int)) (by rw [Int.natAbs_natCast]; exact h2)
    have en : Kt.negB (Lib.itoa (z.den : Int)) = false := by rw [Lib.itoa_nonneg]; exact Kt.neg_dec _
    have eb : Kt.body (Lib.itoa (z.den : Int)) = Lib.itoa (z.den : Int) := Kt.body_pos en
    rw [eb] at b1 b3
    rw [en] at b3
    have et : Lib.itoa z.num ++ [47] ++ Lib.itoa (z.den : Int) = Lib.itoa z.num ++ 47 :: Lib.itoa (z.den : Int) := by rw [List.append_assoc]; rfl
    rw [et]
    obtain ⟨c1, c2⟩ := Kt.cutA (Lib.itoa z.num) (Lib.itoa (z.den : Int)) (Kt.no47 _)
    have eA := Kt.negA (Lib.itoa z.num ++ 47 :: Lib.itoa (z.den : Int))
    rw [c1] at eA
    have eD : Kt.prD (Lib.itoa z.num ++ 47 :: Lib.itoa (z.den : Int)) = Kt.body (Lib.itoa z.num) := by unfold Kt.prD; rw [c1]
    have eY : ((Kt.prY (Lib.itoa z.num ++ 47 :: Lib.itoa (z.den : Int)) : Nat) : Int) = (z.den : Int) := by unfold Kt.prY; rw [c2]; exact b3
    have eX : Kt.prX (Lib.itoa z.num ++ 47 :: Lib.itoa (z.den : Int)) = z.num := by unfold Kt.prX; rw [eD, ← eA]; exact a3
    have hl : (Lib.itoa (z.den : Int)).length ≤ 39 := by rw [Lib.itoa_nonneg]; exact Kt.dec39 h2
    refine ⟨pr_true (by rw [eD]; exact a1) (by rw [c2]; exact b1) (by rw [eD, ← eA]; exact a2), ?_, by rw [eX, eY]; exact hs, ?_⟩
    · have := z.den_nz
      intro e
      rw [e] at eY
      omega
    · rw [List.length_append, List.length_cons]; omega
theorem PR.get {t : List UInt8} {z : Rat} (h : Kt.prG t = true) (h0 : Kt.prY t ≠ 0) (hz : Rat.divInt (Kt.prX t) (Kt.prY t : Int) = z) {W W' : World} {e : Ending} (hp : PR t W e W') : GRc z 100 W e W' := by
  unfold PR at hp; rw [if_neg (by rw [h]; decide), if_neg h0, hz] at hp; exact hp
theorem PR.getZ {t : List UInt8} (h : Kt.prG t = true) (h0 : Kt.prY t = 0) {W W' : World} {e : Ending} (hp : PR t W e W') : PBad 3 W e W' := by
  unfold PR at hp; rw [if_neg (by rw [h]; decide), if_pos h0] at hp; exact hp
theorem PR.getB {t : List UInt8} (h : Kt.prG t = false) {W W' : World} {e : Ending} (hp : PR t W e W') : PBad 6 W e W' := by
  unfold PR at hp; rw [if_pos h] at hp; exact hp
end Go.Proofs.YtkpomjdablopaaaGreatDoor
/- Walks of package rational: isZero, zero of the reference. -/
namespace Go.Proofs.YtkpomjdablopaaaGreatDoor
open Go.RowKit
set_option linter.unusedVariables false

theorem Cr.more_ {W : World} {A : Option Addr} {c : Nat} {l : List Nat} {B : Option Addr} {d : Nat} {m : List Nat} {z : Rat} {n k : Nat} (h : Cr W A c l B d m z n) (hn : n ≤ k) : Cr W A c l B d m z k := ⟨⟨h.a.iv.more hn, h.a.can⟩, ⟨h.b.iv.more hn, h.b.can⟩⟩
theorem len0_nat (x : Int) : ((Kn.dig x.natAbs).length == 0) = decide (x = 0) := by
  rw [Bool.eq_iff_iff, beq_iff_eq, decide_eq_true_iff]
  constructor
  · intro h; have := Kn.dig_nil.1 (List.eq_nil_of_length_eq_zero h); omega
  · rintro rfl; exact congrArg List.length Kn.dig_zero
theorem len0_int (x : Int) : (((Kn.dig x.natAbs).length : Int) == 0) = decide (x = 0) := by
  rw [← len0_nat, Bool.eq_iff_iff, beq_iff_eq, beq_iff_eq]; omega
set_option maxRecDepth 100000 in
set_option maxHeartbeats 3000000 in
theorem grz {x : Int} {n : Nat} {p : Bool} {A : Option Addr} {c : Nat} {l : List Nat} {w : World} (h : Iv w p A c l x n) (hn : n ≤ 100) :
    Calls Tryz.prog 71 #[.agg #[.bool p, .slice A l.length c]] w fun e w' => e = .returned (.bool (decide (x = 0))) ∧ Below w.heap.size w w' := by
  obtain ⟨B, hB⟩ : ∃ B, Hid (decide (x = 0) = B) := ⟨_, Lib.hid rfl⟩
  rw [hB.out]
  have HC := Lib.hid (fun (W : World) (h : Iv W p A c l x n) => grclean h hn)
  clear hn
  go_enter Tryz.func71, Tryz.ntmps71
  go_wp2_with fail
  have t1 : Two (w.alloc (.cells #[.bool p, .slice A l.length c] 24)) w.heap.size (.bool p) (.slice A l.length c) := Two.new_ w (.bool p) (.slice A l.length c) 24
  have bel : Below w.heap.size w (w.alloc (.cells #[.bool p, .slice A l.length c] 24)) := (Below.refl _ _).alloc (Nat.le_refl _) _
  generalize (w.alloc (.cells #[.bool p, .slice A l.length c] 24)) = wx at t1 bel ⊢
  have X := h.below bel
  have t1_0 := t1.c0
  have t1_1 := t1.c1
  go_wp2_with fail
  refine (HC.out _ X).mono ?_
  rintro e w2 ⟨p3, A3, c3, l3, rfl, E3, hb⟩
  clear t1_0 t1_1
  clear t1
  replace bel := bel.trans (hb.mono bel.size)
  clear hb
  have hz : ((l3.length : Int) == 0) = B := by rw [← hB.out, E3.can.2]; exact len0_int _
  have hz2 : (l3.length == 0) = B := by rw [← hB.out, E3.can.2]; exact len0_nat _
  have hfd : (Instr.field 24 (.agg #[.bool p3, .slice A3 l3.length c3]) 1).run Tryz.prog w2 = .ok (.slice A3 l3.length c3) w2 := by kernel_rfl
  go_wp2_with fail
  go_ret
  exact ⟨by first | rfl | (rw [hz2]) | (rw [hz]), bel⟩

set_option maxRecDepth 100000 in
set_option maxHeartbeats 3000000 in
theorem rsmall_of {a : Int} {k : Nat} (H : ∀ W, Calls Tryz.prog 69 #[.int .i64 a] W (GI a k W)) (w : World) : Calls Tryz.prog 32 #[.int .i64 a] w (GI a k w) := by
  have HO := Lib.hid H
  clear H
  go_enter Tryz.func32, Tryz.ntmps32
  go_wp2_with fail
  have t3 : Two (w.alloc (.cells #[.bool false, .slice none 0 0] 24)) w.heap.size (.bool false) (.slice none 0 0) := Two.new_ w (.bool false) (.slice none 0 0) 24
  have bel : Below w.heap.size w (w.alloc (.cells #[.bool false, .slice none 0 0] 24)) := (Below.refl _ _).alloc (Nat.le_refl _) _
  generalize (w.alloc (.cells #[.bool false, .slice none 0 0] 24)) = wx at t3 bel ⊢
  refine (HO.out _).mono ?_
  rintro e w2 ⟨p3, A3, c3, l3, rfl, E3, hb⟩
  replace t3 := t3.below hb t3.lt
  replace bel := bel.trans (hb.mono bel.size)
  clear hb
  have t3_0 := t3.c0
  have t3_1 := t3.c1
  have f0 := t3.fr 0
  have f1 := t3.fr 1
  have R := Lib.hid (t3.put2 (.bool p3) (.slice A3 l3.length c3))
  have CR := Lib.hid (E3.put2 t3 (.bool p3) (.slice A3 l3.length c3))
  have BL := Lib.hid (below_set2 bel (b := w.heap.size) (by omega) (.bool p3) (.slice A3 l3.length c3))
  clear E3 bel t3
  go_wp2_with fail
  have r0 := R.out.c0
  have r1 := R.out.c1
  unfold set2 at r0 r1
  refine bodyPost_ret (v := .agg #[.bool p3, .slice A3 l3.length c3]) (by simp [results, Tryz.results32, go_sem, r0, r1]) rfl ?_
  exact ⟨p3, A3, c3, l3, rfl, CR.out, BL.out⟩

set_option maxRecDepth 100000 in
set_option maxHeartbeats 3000000 in
theorem grzero (w : World) : Calls Tryz.prog 34 #[] w (GR 0 1 w) := by
  obtain ⟨z, hz⟩ : ∃ z : Rat, z = 0 := ⟨_, rfl⟩
  rw [← hz]
  have H0 := Lib.hid (fun (W : World) => (by rw [hz]; exact rsmall_of (fun W => (rof_any 0 (Lib.hid (by omega)) (Lib.hid (by omega)) W).mono fun _ _ hr => GI.of hr (by decide)) W : Calls Tryz.prog 32 #[.int .i64 0] W (GI z.num 1 W)))
  have H1 := Lib.hid (fun (W : World) => (by rw [hz]; exact rsmall_of (fun W => (rof_any 1 (Lib.hid (by omega)) (Lib.hid (by omega)) W).mono fun _ _ hr => GI.of hr (by decide)) W : Calls Tryz.prog 32 #[.int .i64 1] W (GI (z.den : Int) 1 W)))
  have HQ : Hid (decide (z.num < 0) = false ∧ decide ((z.den : Int) < 0) = false) := Lib.hid (by rw [hz]; decide)
  clear hz
  go_enter Tryz.func34, Tryz.ntmps34
  go_wp2_with fail
  have t3 : Four (w.alloc (.cells #[.bool false, .slice none 0 0, .bool false, .slice none 0 0] 26)) w.heap.size (.bool false) (.slice none 0 0) (.bool false) (.slice none 0 0) := Four.new_ w (.bool false) (.slice none 0 0) (.bool false) (.slice none 0 0) 26
  have bel : Below w.heap.size w (w.alloc (.cells #[.bool false, .slice none 0 0, .bool false, .slice none 0 0] 26)) := (Below.refl _ _).alloc (Nat.le_refl _) _
  generalize (w.alloc (.cells #[.bool false, .slice none 0 0, .bool false, .slice none 0 0] 26)) = wx at t3 bel ⊢
  refine (H0.out _).mono ?_
  rintro e w2 ⟨p3, A3, c3, l3, rfl, E3, hb⟩
  replace t3 := t3.below hb t3.lt
  replace bel := bel.trans (hb.mono bel.size)
  clear hb
  go_wp2_with fail
  refine (H1.out _).mono ?_
  rintro e w3 ⟨p4, A4, c4, l4, rfl, E4, hb⟩
  replace t3 := t3.below hb t3.lt
  replace bel := bel.trans (hb.mono bel.size)
  replace E3 := E3.below hb
  clear hb
  obtain rfl : p3 = decide (z.num < 0) := E3.can.1
  obtain rfl : p4 = false := E4.can.1.trans HQ.out.2
  have d0 := t3.c0
  have d1 := t3.c1
  have d2 := t3.c2
  have d3 := t3.c3
  have f0 := t3.fr 0
  have f1 := t3.fr 1
  have f2 := t3.fr 2
  have f3 := t3.fr 3
  have R := Lib.hid (t3.put (.bool (decide (z.num < 0))) (.slice A3 l3.length c3) (.bool false) (.slice A4 l4.length c4))
  have CR := Lib.hid ((⟨E3, E4⟩ : Cr _ _ _ _ _ _ _ z _).put4 t3 (.bool (decide (z.num < 0))) (.slice A3 l3.length c3) (.bool false) (.slice A4 l4.length c4))
  have BL := Lib.hid (below_set4 bel (b := w.heap.size) (by omega) (.bool (decide (z.num < 0))) (.slice A3 l3.length c3) (.bool false) (.slice A4 l4.length c4))
  clear t3 bel E3 E4
  go_wp2_with fail
  have r0 := R.out.c0
  have r1 := R.out.c1
  have r2 := R.out.c2
  have r3 := R.out.c3
  unfold set4 at r0 r1 r2 r3
  refine bodyPost_ret (v := .agg #[.bool (decide (z.num < 0)), .slice A3 l3.length c3, .bool false, .slice A4 l4.length c4]) (by simp [results, Tryz.results34, go_sem, r0, r1, r2, r3]) rfl ?_
  exact ⟨A3, c3, l3, A4, c4, l4, rfl, CR.out, BL.out⟩
end Go.Proofs.YtkpomjdablopaaaGreatDoor
/- Walks of package rational: New of the reference, a denominator below 0. -/
namespace Go.Proofs.YtkpomjdablopaaaGreatDoor
open Go.RowKit
set_option linter.unusedVariables false

set_option maxRecDepth 100000 in
set_option maxHeartbeats 3000000 in
theorem rnew_neg {x y : Int} {z : Rat} {n : Nat} {p : Bool} {A : Option Addr} {c : Nat} {l : List Nat} {q : Bool} {B : Option Addr} {d : Nat} {m : List Nat} {w : World} (h1 : Iv w p A c l x n) (h2 : Iv w q B d m y n) (hn : n ≤ 100) (hn1 : 1 ≤ n) (hy : y < 0) (hx : ¬ x = 0) (hz : z = Rat.divInt x y) :
    Calls Tryz.prog 33 #[.agg #[.bool p, .slice A l.length c], .agg #[.bool q, .slice B m.length d]] w (GRc z n w) := by
  have HC1 := Lib.hid (fun (W : World) (h : Iv W p A c l x n) => grclean h hn)
  have HC2 := Lib.hid (fun (W : World) (h : Iv W q B d m y n) => grclean h hn)
  have HZ1 := Lib.hid (fun (W : World) (p4 : Bool) (A4 : Option Addr) (c4 : Nat) (l4 : List Nat) (h : Cn W p4 A4 c4 l4 y n) => (by have h := grz h.iv hn; rwa [decide_eq_false (by omega)] at h : Calls Tryz.prog 71 #[.agg #[.bool p4, .slice A4 l4.length c4]] W fun e w' => e = .returned (.bool false) ∧ Below W.heap.size W w'))
  have HZ2 := Lib.hid (fun (W : World) (p4 : Bool) (A4 : Option Addr) (c4 : Nat) (l4 : List Nat) (h : Cn W p4 A4 c4 l4 x n) => (by have h := grz h.iv hn; rwa [decide_eq_false hx] at h : Calls Tryz.prog 71 #[.agg #[.bool p4, .slice A4 l4.length c4]] W fun e w' => e = .returned (.bool false) ∧ Below W.heap.size W w'))
  obtain ⟨x1, hx1⟩ : ∃ v : Int, v = (-x) := ⟨_, rfl⟩
  obtain ⟨y1, hy1⟩ : ∃ v : Int, v = (-y) := ⟨_, rfl⟩
  have hy0 : 0 < y1 := by omega
  have hzz : z = Rat.divInt x1 y1 := by rw [hz, hx1, hy1]; exact (Rat.neg_divInt_neg x y).symm
  obtain ⟨G, hG⟩ : ∃ G : Int, G = (Nat.gcd x1.natAbs y1.natAbs : Int) := ⟨_, rfl⟩
  have hpar := rq_parts (n := x1) hy0
  rw [← hzz, ← hG] at hpar
  have hG0 : G ≠ 0 := by
    have : 0 < Nat.gcd x1.natAbs y1.natAbs := Nat.gcd_pos_of_pos_right _ (by omega)
    omega
  have HG := Lib.hid (fun (W : World) (p4 : Bool) (A4 : Option Addr) (c4 : Nat) (l4 : List Nat) (p5 : Bool) (A5 : Option Addr) (c5 : Nat) (l5 : List Nat) (h : Cn W p4 A4 c4 l4 x1 n) (h' : Cn W p5 A5 c5 l5 y1 n) => (by have h := grgcd h.iv h'.iv hn hn; rw [← hG, Nat.max_self] at h; exact h : Calls Tryz.prog 72 #[.agg #[.bool p4, .slice A4 l4.length c4], .agg #[.bool p5, .slice A5 l5.length c5]] W (GI G n W)))
  have HD1 := Lib.hid (fun (W : World) (p4 : Bool) (A4 : Option Addr) (c4 : Nat) (l4 : List Nat) (p5 : Bool) (A5 : Option Addr) (c5 : Nat) (l5 : List Nat) (h : Cn W p4 A4 c4 l4 x1 n) (h' : Cn W p5 A5 c5 l5 G n) => (by have h := grdivide h.iv h'.iv hG0 hn hn; rw [← hpar.1] at h; exact h : Calls Tryz.prog 73 #[.agg #[.bool p4, .slice A4 l4.length c4], .agg #[.bool p5, .slice A5 l5.length c5]] W (GI2 z.num (x1.fmod G) n n W)))
  have HD2 := Lib.hid (fun (W : World) (p4 : Bool) (A4 : Option Addr) (c4 : Nat) (l4 : List Nat) (p5 : Bool) (A5 : Option Addr) (c5 : Nat) (l5 : List Nat) (h : Cn W p4 A4 c4 l4 y1 n) (h' : Cn W p5 A5 c5 l5 G n) => (by have h := grdivide h.iv h'.iv hG0 hn hn; rw [← hpar.2] at h; exact h : Calls Tryz.prog 73 #[.agg #[.bool p4, .slice A4 l4.length c4], .agg #[.bool p5, .slice A5 l5.length c5]] W (GI2 (z.den : Int) (y1.fmod G) n n W)))
  have HSG : Hid (decide (y < 0) = true) := Lib.hid (decide_eq_true (by omega))
  have HNX := Lib.hid (fun (W : World) (p4 : Bool) (A4 : Option Addr) (c4 : Nat) (l4 : List Nat) (h : Cn W p4 A4 c4 l4 x n) => (by have h := grneg h.iv hn; rw [← hx1] at h; exact h : Calls Tryz.prog 37 #[.agg #[.bool p4, .slice A4 l4.length c4]] W (GI x1 n W)))
  have HNY := Lib.hid (fun (W : World) (p4 : Bool) (A4 : Option Addr) (c4 : Nat) (l4 : List Nat) (h : Cn W p4 A4 c4 l4 y n) => (by have h := grneg h.iv hn; rw [← hy1] at h; exact h : Calls Tryz.prog 37 #[.agg #[.bool p4, .slice A4 l4.length c4]] W (GI y1 n W)))
  clear hx1 hy1 hy0 hzz hG hpar hG0
  skip
  have HN := Lib.hid hn
  clear hn hy hx hz hn1
  go_enter Tryz.func33, Tryz.ntmps33
  go_wp2_with fail
  have t2 : Two (((w.alloc (.cells #[.bool p, .slice A l.length c] 24)).alloc (.cells #[.bool q, .slice B m.length d] 24)).alloc (.cells #[.bool false, .slice none 0 0, .bool false, .slice none 0 0] 26)) w.heap.size (.bool p) (.slice A l.length c) := ((Two.new_ w (.bool p) (.slice A l.length c) 24).alloc _).alloc _
  have t3 : Two (((w.alloc (.cells #[.bool p, .slice A l.length c] 24)).alloc (.cells #[.bool q, .slice B m.length d] 24)).alloc (.cells #[.bool false, .slice none 0 0, .bool false, .slice none 0 0] 26)) (w.heap.size + 1) (.bool q) (.slice B m.length d) := by simpa only [World.size_alloc, Nat.add_assoc, Nat.reduceAdd] using (Two.new_ (w.alloc (.cells #[.bool p, .slice A l.length c] 24)) (.bool q) (.slice B m.length d) 24).alloc _
  have t4 : Four (((w.alloc (.cells #[.bool p, .slice A l.length c] 24)).alloc (.cells #[.bool q, .slice B m.length d] 24)).alloc (.cells #[.bool false, .slice none 0 0, .bool false, .slice none 0 0] 26)) (w.heap.size + 2) (.bool false) (.slice none 0 0) (.bool false) (.slice none 0 0) := by simpa only [World.size_alloc, Nat.add_assoc, Nat.reduceAdd] using Four.new_ ((w.alloc (.cells #[.bool p, .slice A l.length c] 24)).alloc (.cells #[.bool q, .slice B m.length d] 24)) (.bool false) (.slice none 0 0) (.bool false) (.slice none 0 0) 26
  have bel : Below w.heap.size w (((w.alloc (.cells #[.bool p, .slice A l.length c] 24)).alloc (.cells #[.bool q, .slice B m.length d] 24)).alloc (.cells #[.bool false, .slice none 0 0, .bool false, .slice none 0 0] 26)) := (((Below.refl _ _).alloc (Nat.le_refl _) _).alloc (by simp only [World.size_alloc]; omega) _).alloc (by simp only [World.size_alloc]; omega) _
  generalize (((w.alloc (.cells #[.bool p, .slice A l.length c] 24)).alloc (.cells #[.bool q, .slice B m.length d] 24)).alloc (.cells #[.bool false, .slice none 0 0, .bool false, .slice none 0 0] 26)) = wx at t2 t3 t4 bel ⊢
  have X := h1.below bel
  have t2_0 := t2.c0
  have t2_1 := t2.c1
  go_wp2_with fail
  refine (HC1.out _ X).mono ?_
  rintro e w2 ⟨p3, A3, c3, l3, rfl, E1, hb⟩
  clear t2_0 t2_1
  clear t2
  replace t3 := t3.below hb t3.lt
  replace t4 := t4.below hb t4.lt
  replace bel := bel.trans (hb.mono bel.size)
  clear hb
  clear X
  go_upto_region 2 with (fail)
  have hg6 : w.heap.size + 2 < w2.heap.size := t4.lt
  have t6 : Two (w2.alloc (.cells #[.bool p3, .slice A3 l3.length c3] 24)) w2.heap.size (.bool p3) (.slice A3 l3.length c3) := Two.new_ w2 (.bool p3) (.slice A3 l3.length c3) 24
  have bn : Below w2.heap.size w2 (w2.alloc (.cells #[.bool p3, .slice A3 l3.length c3] 24)) := (Below.refl _ _).alloc (Nat.le_refl _) _
  replace t3 := t3.below bn t3.lt
  replace t4 := t4.below bn t4.lt
  replace bel := bel.trans (bn.mono bel.size)
  replace E1 := E1.below bn
  clear bn
  generalize (w2.alloc (.cells #[.bool p3, .slice A3 l3.length c3] 24)) = v1 at t3 t4 bel E1 t6 ⊢
  generalize w2.heap.size = g6 at t3 t4 bel E1 t6 hg6 ⊢
  have Y := h2.below bel
  have t3_0 := t3.c0
  have t3_1 := t3.c1
  go_wp2_with fail
  refine (HC2.out _ Y).mono ?_
  rintro e w3 ⟨p4, A4, c4, l4, rfl, E2, hb⟩
  clear t3_0 t3_1
  clear t3
  replace t4 := t4.below hb t4.lt
  replace bel := bel.trans (hb.mono bel.size)
  replace E1 := E1.below hb
  replace t6 := t6.below hb t6.lt
  clear hb
  clear Y
  obtain rfl : p4 = true := E2.can.1.trans HSG.out
  go_upto_region 3 with (fail)
  have hg7 : g6 < w3.heap.size := t6.lt
  have t7 : Two (w3.alloc (.cells #[.bool true, .slice A4 l4.length c4] 24)) w3.heap.size (.bool true) (.slice A4 l4.length c4) := Two.new_ w3 (.bool true) (.slice A4 l4.length c4) 24
  have bn : Below w3.heap.size w3 (w3.alloc (.cells #[.bool true, .slice A4 l4.length c4] 24)) := (Below.refl _ _).alloc (Nat.le_refl _) _
  replace t4 := t4.below bn t4.lt
  replace bel := bel.trans (bn.mono bel.size)
  replace E1 := E1.below bn
  replace t6 := t6.below bn t6.lt
  replace E2 := E2.below bn
  clear bn
  generalize (w3.alloc (.cells #[.bool true, .slice A4 l4.length c4] 24)) = v2 at t4 bel E1 t6 E2 t7 ⊢
  generalize w3.heap.size = g7 at t4 bel E1 t6 E2 t7 hg7 ⊢
  have t7_0 := t7.c0
  have t7_1 := t7.c1
  go_wp2_with fail
  refine (HZ1.out _ _ _ _ _ E2).mono ?_
  rintro e w4 ⟨rfl, hb⟩
  clear t7_0 t7_1
  replace t4 := t4.below hb t4.lt
  replace bel := bel.trans (hb.mono bel.size)
  replace E1 := E1.below hb
  replace t6 := t6.below hb t6.lt
  replace E2 := E2.below hb
  replace t7 := t7.below hb t7.lt
  clear hb
  have t6_0 := t6.c0
  have t6_1 := t6.c1
  go_wp2_with fail
  refine (HZ2.out _ _ _ _ _ E1).mono ?_
  rintro e w5 ⟨rfl, hb⟩
  clear t6_0 t6_1
  replace t4 := t4.below hb t4.lt
  replace bel := bel.trans (hb.mono bel.size)
  replace E1 := E1.below hb
  replace t6 := t6.below hb t6.lt
  replace E2 := E2.below hb
  replace t7 := t7.below hb t7.lt
  clear hb
  have t7_0 := t7.c0
  have t7_1 := t7.c1
  have t6_0 := t6.c0
  have t6_1 := t6.c1
  go_wp2_with fail
  refine (HNX.out _ _ _ _ _ E1).mono ?_
  rintro e w6 ⟨p5, A5, c5, l5, rfl, E3, hb⟩
  clear t7_0 t7_1 t6_0 t6_1
  clear E1
  replace t4 := t4.below hb t4.lt
  replace bel := bel.trans (hb.mono bel.size)
  replace t6 := t6.below hb t6.lt
  replace E2 := E2.below hb
  replace t7 := t7.below hb t7.lt
  clear hb
  have t6_0 := t6.c0
  have t6_1 := t6.c1
  have fa := t6.fr 0
  have fb := t6.fr 1
  go_upto_region 9 with (fail)
  clear fa fb
  clear t6_0 t6_1
  replace t4 := t4.far2 (g := g6) (by omega) (.bool p5) (.slice A5 l5.length c5)
  replace bel := below_set2 bel (b := g6) (by omega) (.bool p5) (.slice A5 l5.length c5)
  replace E2 := E2.put2 t6 (.bool p5) (.slice A5 l5.length c5)
  replace t7 := t7.far2 (g := g6) (by omega) (.bool p5) (.slice A5 l5.length c5)
  replace E3 := E3.put2 t6 (.bool p5) (.slice A5 l5.length c5)
  replace t6 := t6.put2 (.bool p5) (.slice A5 l5.length c5)
  dsimp only [set2] at t4 bel t6 E2 t7 E3
  generalize ((w6.setCell ⟨g6, 0, none⟩ (.bool p5)).setCell ⟨g6, 1, none⟩ (.slice A5 l5.length c5)) = v3 at t4 bel t6 E2 t7 E3 ⊢
  have t7_0 := t7.c0
  have t7_1 := t7.c1
  go_wp2_with fail
  refine (HNY.out _ _ _ _ _ E2).mono ?_
  rintro e w7 ⟨p6, A6, c6, l6, rfl, E4, hb⟩
  clear t7_0 t7_1
  clear E2
  replace t4 := t4.below hb t4.lt
  replace bel := bel.trans (hb.mono bel.size)
  replace t6 := t6.below hb t6.lt
  replace t7 := t7.below hb t7.lt
  replace E3 := E3.below hb
  clear hb
  have t7_0 := t7.c0
  have t7_1 := t7.c1
  have fa := t7.fr 0
  have fb := t7.fr 1
  go_upto_region 10 with (fail)
  clear fa fb
  clear t7_0 t7_1
  replace t4 := t4.far2 (g := g7) (by omega) (.bool p6) (.slice A6 l6.length c6)
  replace bel := below_set2 bel (b := g7) (by omega) (.bool p6) (.slice A6 l6.length c6)
  replace t6 := t6.far2 (g := g7) (by omega) (.bool p6) (.slice A6 l6.length c6)
  replace E3 := E3.put2 t7 (.bool p6) (.slice A6 l6.length c6)
  replace E4 := E4.put2 t7 (.bool p6) (.slice A6 l6.length c6)
  replace t7 := t7.put2 (.bool p6) (.slice A6 l6.length c6)
  dsimp only [set2] at t4 bel t6 t7 E3 E4
  generalize ((w7.setCell ⟨g7, 0, none⟩ (.bool p6)).setCell ⟨g7, 1, none⟩ (.slice A6 l6.length c6)) = v4 at t4 bel t6 t7 E3 E4 ⊢
  have t6_0 := t6.c0
  have t6_1 := t6.c1
  have t7_0 := t7.c0
  have t7_1 := t7.c1
  go_wp2_with fail
  refine (HG.out _ _ _ _ _ _ _ _ _ E3 E4).mono ?_
  rintro e w8 ⟨p8, A8, c8, l8, rfl, E8, hb⟩
  clear t6_0 t6_1 t7_0 t7_1
  replace t4 := t4.below hb t4.lt
  replace bel := bel.trans (hb.mono bel.size)
  replace t6 := t6.below hb t6.lt
  replace t7 := t7.below hb t7.lt
  replace E3 := E3.below hb
  replace E4 := E4.below hb
  clear hb
  go_upto_region 11 with (fail)
  have hg8 : g7 < w8.heap.size := t7.lt
  have t8 : Two (w8.alloc (.cells #[.bool p8, .slice A8 l8.length c8] 24)) w8.heap.size (.bool p8) (.slice A8 l8.length c8) := Two.new_ w8 (.bool p8) (.slice A8 l8.length c8) 24
  have bn : Below w8.heap.size w8 (w8.alloc (.cells #[.bool p8, .slice A8 l8.length c8] 24)) := (Below.refl _ _).alloc (Nat.le_refl _) _
  replace t4 := t4.below bn t4.lt
  replace bel := bel.trans (bn.mono bel.size)
  replace t6 := t6.below bn t6.lt
  replace t7 := t7.below bn t7.lt
  replace E3 := E3.below bn
  replace E4 := E4.below bn
  replace E8 := E8.below bn
  clear bn
  generalize (w8.alloc (.cells #[.bool p8, .slice A8 l8.length c8] 24)) = v5 at t4 bel t6 t7 E3 E4 E8 t8 ⊢
  generalize w8.heap.size = g8 at t4 bel t6 t7 E3 E4 E8 t8 hg8 ⊢
  have t6_0 := t6.c0
  have t6_1 := t6.c1
  have t8_0 := t8.c0
  have t8_1 := t8.c1
  go_wp2_with fail
  refine (HD1.out _ _ _ _ _ _ _ _ _ E3 E8).mono ?_
  rintro e w9 ⟨p9, A9, c9, l9, pa, Aa, ca, la, rfl, E9, Ea, hb⟩
  clear t6_0 t6_1 t8_0 t8_1
  clear E3 t6
  replace t4 := t4.below hb t4.lt
  replace bel := bel.trans (hb.mono bel.size)
  replace t7 := t7.below hb t7.lt
  replace E4 := E4.below hb
  replace E8 := E8.below hb
  replace t8 := t8.below hb t8.lt
  clear hb
  clear Ea
  go_upto_region 12 with (fail)
  have hg9 : g8 < w9.heap.size := t8.lt
  have t9 : Two ((w9.alloc (.cells #[.bool p9, .slice A9 l9.length c9] 24)).alloc (.cells #[.bool pa, .slice Aa la.length ca] 24)) w9.heap.size (.bool p9) (.slice A9 l9.length c9) := (Two.new_ w9 (.bool p9) (.slice A9 l9.length c9) 24).alloc _
  have t10 : Two ((w9.alloc (.cells #[.bool p9, .slice A9 l9.length c9] 24)).alloc (.cells #[.bool pa, .slice Aa la.length ca] 24)) (w9.heap.size + 1) (.bool pa) (.slice Aa la.length ca) := by simpa only [World.size_alloc, Nat.add_assoc, Nat.reduceAdd] using Two.new_ (w9.alloc (.cells #[.bool p9, .slice A9 l9.length c9] 24)) (.bool pa) (.slice Aa la.length ca) 24
  have bn : Below w9.heap.size w9 ((w9.alloc (.cells #[.bool p9, .slice A9 l9.length c9] 24)).alloc (.cells #[.bool pa, .slice Aa la.length ca] 24)) := ((Below.refl _ _).alloc (Nat.le_refl _) _).alloc (by simp only [World.size_alloc]; omega) _
  replace t4 := t4.below bn t4.lt
  replace bel := bel.trans (bn.mono bel.size)
  replace t7 := t7.below bn t7.lt
  replace E4 := E4.below bn
  replace E8 := E8.below bn
  replace t8 := t8.below bn t8.lt
  replace E9 := E9.below bn
  clear bn
  generalize ((w9.alloc (.cells #[.bool p9, .slice A9 l9.length c9] 24)).alloc (.cells #[.bool pa, .slice Aa la.length ca] 24)) = v6 at t4 bel t7 E4 E8 t8 E9 t9 t10 ⊢
  generalize w9.heap.size = g9 at t4 bel t7 E4 E8 t8 E9 t9 t10 hg9 ⊢
  clear t10
  have t7_0 := t7.c0
  have t7_1 := t7.c1
  have t8_0 := t8.c0
  have t8_1 := t8.c1
  go_wp2_with fail
  refine (HD2.out _ _ _ _ _ _ _ _ _ E4 E8).mono ?_
  rintro e w10 ⟨pb, Ab, cb, lb, pc, Ac, cc, lc, rfl, Eb, Ec, hb⟩
  clear t7_0 t7_1 t8_0 t8_1
  clear E4 E8 t7 t8
  replace t4 := t4.below hb t4.lt
  replace bel := bel.trans (hb.mono bel.size)
  replace E9 := E9.below hb
  replace t9 := t9.below hb t9.lt
  clear hb
  clear Ec
  go_upto_region 13 with (fail)
  have hgb : g9 < w10.heap.size := t9.lt
  have tb : Two ((w10.alloc (.cells #[.bool pb, .slice Ab lb.length cb] 24)).alloc (.cells #[.bool pc, .slice Ac lc.length cc] 24)) w10.heap.size (.bool pb) (.slice Ab lb.length cb) := (Two.new_ w10 (.bool pb) (.slice Ab lb.length cb) 24).alloc _
  have tc : Two ((w10.alloc (.cells #[.bool pb, .slice Ab lb.length cb] 24)).alloc (.cells #[.bool pc, .slice Ac lc.length cc] 24)) (w10.heap.size + 1) (.bool pc) (.slice Ac lc.length cc) := by simpa only [World.size_alloc, Nat.add_assoc, Nat.reduceAdd] using Two.new_ (w10.alloc (.cells #[.bool pb, .slice Ab lb.length cb] 24)) (.bool pc) (.slice Ac lc.length cc) 24
  have bn : Below w10.heap.size w10 ((w10.alloc (.cells #[.bool pb, .slice Ab lb.length cb] 24)).alloc (.cells #[.bool pc, .slice Ac lc.length cc] 24)) := ((Below.refl _ _).alloc (Nat.le_refl _) _).alloc (by simp only [World.size_alloc]; omega) _
  replace t4 := t4.below bn t4.lt
  replace bel := bel.trans (bn.mono bel.size)
  replace E9 := E9.below bn
  replace t9 := t9.below bn t9.lt
  replace Eb := Eb.below bn
  clear bn
  generalize ((w10.alloc (.cells #[.bool pb, .slice Ab lb.length cb] 24)).alloc (.cells #[.bool pc, .slice Ac lc.length cc] 24)) = v7 at t4 bel E9 t9 Eb tb tc ⊢
  generalize w10.heap.size = gb at t4 bel E9 t9 Eb tb tc hgb ⊢
  clear tc
  obtain rfl : p9 = decide (z.num < 0) := E9.can.1
  obtain rfl : pb = false := Eb.can.1.trans (decide_eq_false (by have := rq_den_pos z; omega))
  have t9_0 := t9.c0
  have t9_1 := t9.c1
  have tb_0 := tb.c0
  have tb_1 := tb.c1
  have d0 := t4.c0
  have d1 := t4.c1
  have d2 := t4.c2
  have d3 := t4.c3
  have f0 := t4.fr 0
  have f1 := t4.fr 1
  have f2 := t4.fr 2
  have f3 := t4.fr 3
  have R := Lib.hid (t4.put (.bool (decide (z.num < 0))) (.slice A9 l9.length c9) (.bool false) (.slice Ab lb.length cb))
  have CR := Lib.hid ((⟨E9, Eb⟩ : Cr _ _ _ _ _ _ _ z _).put4 t4 (.bool (decide (z.num < 0))) (.slice A9 l9.length c9) (.bool false) (.slice Ab lb.length cb))
  have BL := Lib.hid (below_set4 bel (b := w.heap.size + 2) (by omega) (.bool (decide (z.num < 0))) (.slice A9 l9.length c9) (.bool false) (.slice Ab lb.length cb))
  clear t4 bel E9 t9 Eb tb
  go_wp2_with fail
  have r0 := R.out.c0
  have r1 := R.out.c1
  have r2 := R.out.c2
  have r3 := R.out.c3
  unfold set4 at r0 r1 r2 r3
  refine bodyPost_ret (v := .tuple #[.agg #[.bool (decide (z.num < 0)), .slice A9 l9.length c9, .bool false, .slice Ab lb.length cb], .int .i64 0]) (by simp [results, Tryz.results33, go_sem, r0, r1, r2, r3]) rfl ?_
  exact ⟨A9, c9, l9, Ab, cb, lb, rfl, CR.out, BL.out⟩
end Go.Proofs.YtkpomjdablopaaaGreatDoor
