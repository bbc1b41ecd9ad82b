/- The law IntegerTexts, walked: the text of an integer is its decimal form and is parsed as the integer. -/
import Derived.Test.YtmhfdmidaheoeaaDoorTr
import Derived.Test.YtmhfdmidaheoeaaDoorP3
import Derived.Test.YtmhfdmidaheoeaaDoorLw
namespace Go.Proofs.YtmhfdmidaheoeaaDoor
open Go.RowKit
set_option linter.unusedVariables false

theorem Kt.canon_isNum {t : List UInt8} (h : Kt.canon t) : Kt.isNum t = true := by
  unfold Kt.isNum
  rw [Bool.and_eq_true, Bool.or_eq_true, Bool.and_eq_true]
  refine ⟨h.2.1, ?_⟩
  cases t with
  | nil => exact absurd rfl h.1
  | cons c r =>
    by_cases hc : c = 48
    · subst hc
      rcases h.2.2 with h3 | h3
      · have : r = [] := List.eq_nil_of_length_eq_zero (by simpa using h3)
        subst this
        exact .inl rfl
      · exact absurd rfl h3
    · exact .inr ⟨rfl, by simp [hc]⟩
theorem Kt.neg_dec (n : Nat) : Kt.negB (Lib.decDigits n) = false := by
  have h1 := Kt.dec_dig n
  unfold Kt.negB
  cases hl : Lib.decDigits n with
  | nil => rfl
  | cons c r =>
    rw [hl, List.all_cons, Bool.and_eq_true] at h1
    have h2 := h1.1
    unfold Kt.digC at h2
    simp at h2
    have : c ≠ 45 := fun e => by subst e; exact absurd h2.1 (by decide)
    simp [this]
theorem Kt.pZ_dec {n : Nat} (h : (Lib.decDigits n).length ≤ 600) : Kt.pZ (Lib.decDigits n) = (0, (n : Int)) := by
  have hn := Kt.neg_dec n
  have hb : Kt.body (Lib.decDigits n) = Lib.decDigits n := by unfold Kt.body; rw [hn]; rfl
  unfold Kt.pZ
  rw [if_neg (by omega), hb, hn, Kt.canon_isNum (Kt.dec_canon n), if_neg (by simp), if_neg (by omega), Kt.dec_val]
  rfl
theorem Kt.pZ_neg {n : Nat} (h0 : 0 < n) (h : (Lib.decDigits n).length ≤ 600) : Kt.pZ (45 :: Lib.decDigits n) = (0, -(n : Int)) := by
  have hn : Kt.negB (45 :: Lib.decDigits n) = true := rfl
  have hb : Kt.body (45 :: Lib.decDigits n) = Lib.decDigits n := by unfold Kt.body; rw [hn]; rfl
  have h48 : (Lib.decDigits n == [48]) = false := by
    rw [beq_eq_false_iff_ne]
    intro e
    have := Kt.dec_val n
    rw [e] at this
    have e2 : Kt.valN [48] = 0 := rfl
    omega
  unfold Kt.pZ
  rw [if_neg (by rw [List.length_cons]; omega), hb, hn, Kt.canon_isNum (Kt.dec_canon n), h48, if_neg (by simp), if_neg (by omega), Kt.dec_val]
  rfl
theorem Kt.pZ_itoa {z : Int} (h : (Lib.decDigits z.natAbs).length ≤ 600) : Kt.pZ (Lib.itoa z) = (0, z) ∧ (Lib.itoa z).length ≤ (Lib.decDigits z.natAbs).length + 1 := by
  rcases Int.lt_or_le z 0 with hz | hz
  · obtain ⟨n, hn, rfl⟩ : ∃ n : Nat, 0 < n ∧ z = -(n : Int) := ⟨z.natAbs, by omega, by omega⟩
    rw [Int.natAbs_neg, Int.natAbs_natCast] at h ⊢
    rw [Lib.itoa_neg n hn]
    exact ⟨Kt.pZ_neg hn h, by first | exact Nat.le_refl _ | simp⟩
  · obtain ⟨n, rfl⟩ : ∃ n : Nat, z = (n : Int) := ⟨z.natAbs, by omega⟩
    rw [Int.natAbs_natCast] at h ⊢
    rw [Lib.itoa_nonneg]
    exact ⟨Kt.pZ_dec h, by omega⟩
theorem dec_ten {n : Nat} (h : n < Kn.pw 10) : (Lib.decDigits n).length ≤ 100 :=
  Kn.dec_len (k := 99) (Nat.lt_trans h (by decide +kernel))

/-- two boxes -/
structure Bt (w wr : World) (g : Nat) (p1 : Bool) (a1 : Option Addr) (n1 c1 : Nat) (p2 : Bool) (a2 : Option Addr) (n2 c2 : Nat) : Prop where
  t1 : Two wr w.heap.size (.bool p1) (.slice a1 n1 c1)
  t2 : Two wr g (.bool p2) (.slice a2 n2 c2)
  bel : Below w.heap.size w wr
section
variable {w wr wx : World} {g : Nat} {p1 p2 : Bool} {a1 a2 : Option Addr} {n1 c1 n2 c2 : Nat}
theorem Bt.below (h : Bt w wr g p1 a1 n1 c1 p2 a2 n2 c2) (hb : Below wr.heap.size wr wx) : Bt w wx g p1 a1 n1 c1 p2 a2 n2 c2 := ⟨h.t1.below hb h.t1.lt, h.t2.below hb h.t2.lt, h.bel.trans (hb.mono h.bel.size)⟩
theorem Bt.drew (h : Bt w wr g p1 a1 n1 c1 p2 a2 n2 c2) : Bt w wr.drew g p1 a1 n1 c1 p2 a2 n2 c2 := ⟨h.t1.drew, h.t2.drew, bDrew1 h.bel⟩
end

set_option maxRecDepth 100000 in
set_option maxHeartbeats 4000000 in
theorem itexts_walk (nx : Bool) (A : Option Addr) (ca : Nat) (xs : List Nat) (w : World) (hx : Sl w w.heap.size A ca xs) (ht : Tabs w) :
    Calls Tryd.prog 5 #[intV nx A xs.length ca] w fun e w' => e = .returned (.bool true) ∧ Below w.heap.size w w' := by
  unfold intV
  go_enter Tryd.func5, Tryd.ntmps5
  go_wp2_with fail
  have t := Two.new_ w (.bool nx) (.slice A xs.length ca) 24
  have bel := al1 w (.cells #[.bool nx, .slice A xs.length ca] 24)
  revert t bel
  generalize w.alloc (.cells #[.bool nx, .slice A xs.length ca] 24) = w1
  intro t bel
  refine (known_ok _ (ht.below bel)).mono ?_
  rintro e w2 ⟨rfl, hb⟩
  replace t := t.below hb t.lt
  replace bel := bel.trans (hb.mono bel.size)
  clear hb
  have x0 := t.c0
  have x1 := t.c1
  rcases Decidable.em (¬ xs.length ≤ 10) with hxl | hxl
  · have HL := Lib.hid hxl
    clear hxl
    go_wp2_with fail
    refine (gshort_f _ HL.out).mono ?_
    rintro e w' ⟨rfl, hb⟩
    clear x0 x1
    go_wp2_with fail
    go_ret
    exact ⟨rfl, bel.trans (hb.mono bel.size)⟩
  replace hxl : xs.length ≤ 10 := by omega
  go_wp2_with fail
  refine (gshort_t _ hxl).mono ?_
  rintro e w' ⟨rfl, hb⟩
  replace t := t.below hb t.lt
  replace bel := bel.trans (hb.mono bel.size)
  clear hb
  clear x0 x1
  have x0 := t.c0
  have x1 := t.c1
  obtain ⟨x, hxv⟩ : ∃ x : Int, x = Kn.iv nx xs := ⟨_, rfl⟩
  have X : Iv _ nx A ca xs x 10 := ⟨(hx.below bel).more bel.size, hxv.symm, hxl⟩
  obtain ⟨s, hs⟩ : ∃ s : ByteArray, Hid (s = ⟨(Lib.itoa x).toArray⟩) := ⟨_, Lib.hid rfl⟩
  have hdl : (Lib.decDigits x.natAbs).length ≤ 100 := dec_ten X.abs
  have htx : Hid (∀ W, Iv W nx A ca xs x 10 → Tabs W → Calls Tryd.prog 21 #[.agg #[.bool nx, .slice A xs.length ca]] W fun e w' => e = .returned (.string s) ∧ Below W.heap.size W w') := Lib.hid (fun W h ht => by
    have := text_any nx A ca xs W h.sl (by have := h.len; omega) ht
    rw [h.val] at this
    rw [hs.out]; exact this)
  have hrtx : Hid (∀ W, Iv W nx A ca xs x 10 → Calls Tryd.prog 23 #[.agg #[.bool nx, .slice A xs.length ca]] W fun e w' => e = .returned (.string s) ∧ Below W.heap.size W w') := Lib.hid (fun W h => by
    have := rtext_any nx A ca xs W h.sl (by have := h.len; omega) (by rw [hxv, Kn.iv_natAbs] at hdl; omega)
    rw [h.val] at this
    rw [hs.out]; exact this)
  have hps : Hid (∀ W, Calls Tryd.prog 22 #[.string s] W fun e W' => ∃ p A c l, e = .returned (.tuple #[.agg #[.bool p, .slice A l.length c], .int .i64 0]) ∧ Cn W' p A c l x 10 ∧ Below W.heap.size W W') := Lib.hid (fun W => by
    have e : bs s = Lib.itoa x := by rw [hs.out]; simp [bs]
    have hp := Kt.pZ_itoa (z := x) (by omega)
    have h := parse_any s (by have h1 := bs_length s; rw [e] at h1; have := hp.2; omega) W
    rw [e, hp.1] at h
    refine h.mono ?_
    rintro e2 W' ⟨A, c, he, hS, hb⟩
    exact ⟨_, A, c, _, he, ⟨⟨hS, Kn.iv_dig x, Kn.dig_len_le X.abs⟩, rfl, rfl⟩, hb⟩)
  have hbq : (s.toList == s.toList) = true := beq_self_eq_true _
  have ht2 := ht.below bel
  clear hxv hx hxl hs hdl
  go_wp2_with fail
  refine (htx.out _ X ht2).mono ?_
  rintro e w' ⟨rfl, hb⟩
  replace t := t.below hb t.lt
  replace bel := bel.trans (hb.mono bel.size)
  replace X := X.below hb
  clear hb x0 x1 ht2
  have x0 := t.c0
  have x1 := t.c1
  go_wp2_with fail
  refine (hps.out _).mono ?_
  rintro e w' ⟨p1, A1, c1, l1, rfl, S1, hb⟩
  replace t := t.below hb t.lt
  replace bel := bel.trans (hb.mono bel.size)
  replace X := X.below hb
  clear hb x0 x1
  have x0 := t.c0
  have x1 := t.c1
  have i : Bt w (w'.alloc (.cells #[.bool p1, .slice A1 l1.length c1] 24)) w'.heap.size nx A xs.length ca p1 A1 l1.length c1 := ⟨t.alloc _, Two.new_ _ _ _ _, bel.alloc bel.size _⟩
  replace X := X.alloc (.cells #[.bool p1, .slice A1 l1.length c1] 24)
  replace S1 := S1.alloc (.cells #[.bool p1, .slice A1 l1.length c1] 24)
  clear x0 x1 t bel
  go_wp2_with fail
  revert i X S1
  generalize w'.alloc (.cells #[.bool p1, .slice A1 l1.length c1] 24) = w3
  generalize w'.heap.size = g
  intro i X S1
  replace i := i.drew
  replace X := X.drew
  replace S1 := S1.drew
  go_region_held3 (fun w' => w'.cell? ⟨w.heap.size, 0, none⟩ = some (.bool nx) ∧ w'.cell? ⟨w.heap.size, 1, none⟩ = some (.slice A xs.length ca) ∧ w'.cell? ⟨g, 0, none⟩ = some (.bool p1) ∧ w'.cell? ⟨g, 1, none⟩ = some (.slice A1 l1.length c1))
    (exact ⟨i.t1.c0, i.t1.c1, i.t2.c0, i.t2.c1⟩)
    (first
      | (go_at_call 23; (with_reducible refine (hrtx.out _ X).mono ?_); rintro e w' ⟨rfl, hb⟩; replace i := i.below hb; replace X := X.below hb; replace S1 := S1.below hb; (try (replace S2 := S2.below hb)); clear hb)
      | (go_at_call 15; (with_reducible refine (gclean X (by decide)).mono ?_); rintro e w' ⟨p2, A2, c2, l2, rfl, S2, hb⟩; replace i := i.below hb; replace X := X.below hb; replace S1 := S1.below hb; clear hb)
      | (go_at_call 10; (with_reducible refine (gsame_t S1 S2 (by decide) (by decide) rfl).mono ?_); rintro e w' ⟨rfl, hb⟩; replace i := i.below hb; replace X := X.below hb; replace S1 := S1.below hb; (try (replace S2 := S2.below hb)); clear hb))
  all_goals
    go_wp2_with fail
    go_ret
    exact ⟨by first | rfl | simp, i.bel⟩
end Go.Proofs.YtmhfdmidaheoeaaDoor
