/- The law LexerNames, walked. -/
import Derived.Test.YtcckocaaoklibaaDoorWd
namespace Go.Proofs.YtcckocaaoklibaaDoor
open Go.RowKit
set_option linter.unusedVariables false

theorem names_no {l : List UInt8} (h : ∀ t, Kx.lexA l ≠ ([t], none)) : Kx.nameB l = false ∧ Kx.resB l = false :=
  ⟨by cases hn : Kx.nameB l with | false => rfl | true => exact absurd (Kx.name_lex hn) (h _),
   by cases hn : Kx.resB l with | false => rfl | true => exact absurd (Kx.res_lex hn) (h _)⟩
theorem names_one {l : List UInt8} {t : Kx.Tk} (h : Kx.lexA l = ([t], none)) :
    (t.kind == 0 && (t.text == l && ((t.pos : Int) == 0))) = Kx.nameB l ∧ (t.kind == 2 && (t.text == l && ((t.pos : Int) == 0))) = Kx.resB l := by
  constructor
  · rw [Bool.eq_iff_iff]
    constructor
    · intro hq
      simp only [Bool.and_eq_true, beq_iff_eq] at hq
      exact (Kx.one_name h (by omega) hq.2.1).1 hq.1
    · intro hq
      have e := h.symm.trans (Kx.name_lex hq)
      injection e with e _
      injection e with e _
      subst e
      simp
  · rw [Bool.eq_iff_iff]
    constructor
    · intro hq
      simp only [Bool.and_eq_true, beq_iff_eq] at hq
      exact (Kx.one_name h (by omega) hq.2.1).2 hq.1
    · intro hq
      have e := h.symm.trans (Kx.res_lex hq)
      injection e with e _
      injection e with e _
      subst e
      simp
set_option maxRecDepth 100000 in
set_option maxHeartbeats 1000000 in
theorem names_walk (s : ByteArray) (w : World) (hT : LexT w) : Calls Tryd.prog 8 #[.string s] w fun e w' => e = .returned (.bool true) ∧ Below w.heap.size w w' := by
  go_enter Tryd.func8, Tryd.ntmps8
  go_wp2_with fail
  refine (known_ok _ hT).mono ?_
  rintro e w1 ⟨rfl, b1⟩
  by_cases hbig : 100 < s.size
  · have hbI : (100 : Int) < (s.size : Int) := by omega
    go_wp2_with fail
    go_ret
    exact ⟨rfl, b1⟩
  have hbI : ¬ (100 : Int) < (s.size : Int) := by omega
  have hsz : s.size ≤ 100000 := by omega
  have hs3 : s.size ≤ 1000 := by omega
  have hs4 : s.size ≤ 1000000 := by omega
  go_wp2_with fail
  refine (lex_any s hsz _ (hT.below b1)).mono ?_
  unfold LexRes
  rintro e w2 ⟨b2, ⟨hx, rfl⟩ | ⟨hl, p, c, hx, hc, rfl⟩ | ⟨hl, hx, A, cap, rfl, hA⟩⟩
  · rw [bs_length] at hx; omega
  · replace b1 := bTrans b1 b2
    have HNO := Lib.hid (names_no (l := bs s) fun t e => by rw [e] at hx; cases hx)
    have hcb : (c == 0) = false := by simpa using hc
    clear b2 hx hc hl
    go_wp2_with fail
    refine (isname_any s hs3 _ (hT.below b1)).mono ?_
    rintro e w3 ⟨rfl, b2⟩
    rw [HNO.out.1]
    replace b1 := bTrans b1 b2
    clear b2
    go_wp2_with fail
    refine (reserved_any s _ (hT.below b1).sp).mono ?_
    rintro e w4 ⟨rfl, b2⟩
    rw [HNO.out.2]
    replace b1 := bTrans b1 b2
    clear b2
    go_wp2_with fail
    refine (risname_any s hs3 _).mono ?_
    rintro e w5 ⟨rfl, rfl⟩
    rw [HNO.out.1]
    go_wp2_with fail
    refine (rreserved_any s hs4 _).mono ?_
    rintro e w6 ⟨rfl, rfl⟩
    rw [HNO.out.2]
    go_wp2_with fail
    go_ret
    exact ⟨rfl, b1⟩
  · replace b1 := bTrans b1 b2
    have hln : (Kx.lexA (bs s)).1.length ≤ 100 := by have := Kx.lexA_count (bs s); rw [bs_length] at this; omega
    by_cases h1 : (Kx.lexA (bs s)).1.length = 1
    · obtain ⟨t, ht⟩ := List.length_eq_one_iff.1 h1
      have hpair : Kx.lexA (bs s) = ([t], none) := Prod.ext ht hx
      have HN := Lib.hid (names_one hpair)
      rw [ht] at hA ⊢
      clear hx ht hpair h1 hln b2
      obtain ⟨b, off, rfl, hb, c0, c1, c2⟩ := hA.at_ (k := 0) (by show 0 < 1; omega)
      have c0' : w2.cell? ⟨b, off, none⟩ = some (.int .i64 t.kind) := c0
      have c1' : w2.cell? ⟨b, off + 1, none⟩ = some (.string (mkB t.text)) := by rw [show off + 1 = off + 0 * 3 + 1 by omega]; exact c1
      have c2' : w2.cell? ⟨b, off + 2, none⟩ = some (.int .i64 (t.pos : Int)) := by rw [show off + 2 = off + 0 * 3 + 2 by omega]; exact c2
      have ea : ∀ W, (Op.equalIn 10000 40 (.agg #[.int .i64 t.kind, .string (mkB t.text), .int .i64 (t.pos : Int)]) (.agg #[.int .i64 0, .string s, .int .i64 0])).run Tryd.prog W = .ok (Kx.nameB (bs s)) W := fun W => by
        rw [tok_cmp, bs_toList, bs_toList, bs_mk, HN.out.1]
      have eb : ∀ W, (Op.equalIn 10000 40 (.agg #[.int .i64 t.kind, .string (mkB t.text), .int .i64 (t.pos : Int)]) (.agg #[.int .i64 2, .string s, .int .i64 0])).run Tryd.prog W = .ok (Kx.resB (bs s)) W := fun W => by
        rw [tok_cmp, bs_toList, bs_toList, bs_mk, HN.out.2]
      have gt := Tryd.eqGuardType40
      have hd1 : ((1 : Int) == 1) = true := rfl
      have i1 := fun W hW => isname_any s hs3 W hW
      have i2 := fun W hW => reserved_any s W hW
      have i3 := fun W => risname_any s hs3 W
      have i4 := fun W => rreserved_any s hs4 W
      have I1 := Lib.hid i1
      have I2 := Lib.hid i2
      have I3 := Lib.hid i3
      have I4 := Lib.hid i4
      clear c0 c1 c2 i1 i2 i3 i4 HN hA
      revert c0' c1' c2' ea eb I1 I2 I3 I4
      generalize t.kind = x
      generalize mkB t.text = y
      generalize (t.pos : Int) = z
      generalize Kx.nameB (bs s) = nb
      generalize Kx.resB (bs s) = rb
      intro c0' c1' c2' ea eb I1 I2 I3 I4
      have n1 : (nb == nb) = true := by simp
      have n2 : (rb == rb) = true := by simp
      go_wp2_with fail
      refine (I1.out _ (hT.below b1)).mono ?_
      rintro e w3 ⟨rfl, b2⟩
      clear c0' c1' c2'
      replace b1 := bTrans b1 b2
      clear b2
      go_wp2_with fail
      refine (I2.out _ (hT.below b1).sp).mono ?_
      rintro e w4 ⟨rfl, b2⟩
      replace b1 := bTrans b1 b2
      clear b2
      go_wp2_with fail
      refine (I3.out _).mono ?_
      rintro e w5 ⟨rfl, rfl⟩
      go_wp2_with fail
      refine (I4.out _).mono ?_
      rintro e w6 ⟨rfl, rfl⟩
      go_wp2_with fail
      go_ret
      exact ⟨rfl, b1⟩
    · have HNO := Lib.hid (names_no (l := bs s) fun t e => by rw [e] at h1; exact h1 rfl)
      clear b2 hx hl hA
      revert h1 hln
      generalize (Kx.lexA (bs s)).1.length = n
      intro hln h1
      have hnI : ((n : Int) == 1) = false := beq_eq_false_iff_ne.2 (by omega)
      go_wp2_with fail
      refine (isname_any s hs3 _ (hT.below b1)).mono ?_
      rintro e w3 ⟨rfl, b2⟩
      rw [HNO.out.1]
      replace b1 := bTrans b1 b2
      clear b2
      go_wp2_with fail
      refine (reserved_any s _ (hT.below b1).sp).mono ?_
      rintro e w4 ⟨rfl, b2⟩
      rw [HNO.out.2]
      replace b1 := bTrans b1 b2
      clear b2
      go_wp2_with fail
      refine (risname_any s hs3 _).mono ?_
      rintro e w5 ⟨rfl, rfl⟩
      rw [HNO.out.1]
      go_wp2_with fail
      refine (rreserved_any s hs4 _).mono ?_
      rintro e w6 ⟨rfl, rfl⟩
      rw [HNO.out.2]
      go_wp2_with fail
      go_ret
      exact ⟨rfl, b1⟩
end Go.Proofs.YtcckocaaoklibaaDoor
