/- Walks: check and next of package lexer. -/
import Derived.Test.YtcckocaaoklibaaDoorW5
import Derived.Test.YtcckocaaoklibaaDoorW2
namespace Go.Proofs.YtcckocaaoklibaaDoor
open Go.RowKit
set_option linter.unusedVariables false

/-- the block b holds three values -/
structure Three (w : World) (b : Nat) (x y z : Value) : Prop where
  blk : ∃ T, w.heap[b]? = some (.cells #[x, y, z] T (0, 0))
section
variable {w w' : World} {b : Nat} {x y z : Value}
theorem Three.lt (h : Three w b x y z) : b < w.heap.size := by obtain ⟨T, h⟩ := h.blk; exact (Array.getElem?_eq_some_iff.1 h).1
theorem Three.c0 (h : Three w b x y z) : w.cell? ⟨b, 0, none⟩ = some x := by obtain ⟨T, h⟩ := h.blk; rw [cell_of_row w b 0 _ _ _ h]; rfl
theorem Three.c1 (h : Three w b x y z) : w.cell? ⟨b, 1, none⟩ = some y := by obtain ⟨T, h⟩ := h.blk; rw [cell_of_row w b 1 _ _ _ h]; rfl
theorem Three.c2 (h : Three w b x y z) : w.cell? ⟨b, 2, none⟩ = some z := by obtain ⟨T, h⟩ := h.blk; rw [cell_of_row w b 2 _ _ _ h]; rfl
theorem Three.fr (h : Three w b x y z) (k : Nat) : w.frozen? ⟨b, k, none⟩ = false := by obtain ⟨T, h⟩ := h.blk; exact frozen_of_row w b k _ _ h
theorem Three.new_ (w : World) (x y z : Value) (T : TypeId) : Three (w.alloc (.cells #[x, y, z] T)) w.heap.size x y z := ⟨T, heap_alloc_new w _⟩
theorem Three.below {B : Nat} (h : Three w b x y z) (hb : Below B w w') (hB : b < B) : Three w' b x y z := by
  obtain ⟨T, h⟩ := h.blk
  exact ⟨T, (hb.block b hB).trans h⟩
theorem Three.grown {row : Option Nat} (h : Three w b x y z) (hg : w.grownBy w' row) (hne : some b ≠ row) : Three w' b x y z := by
  have hl := h.lt
  obtain ⟨T, h⟩ := h.blk
  exact ⟨T, (hg.block b hl hne).trans h⟩
theorem Three.put (h : Three w b x y z) (u v t : Value) : Three (((w.setCell ⟨b, 0, none⟩ u).setCell ⟨b, 1, none⟩ v).setCell ⟨b, 2, none⟩ t) b u v t := by
  obtain ⟨T, h⟩ := h.blk
  exact ⟨T, by simp [World.setCell, Array.getElem?_modify, h]⟩
end
theorem put3 {B b : Nat} {a w : World} (h : Below B a w) (hB : B ≤ b) (u v t : Value) : Below B a (((w.setCell ⟨b, 0, none⟩ u).setCell ⟨b, 1, none⟩ v).setCell ⟨b, 2, none⟩ t) :=
  ((h.setCell (p := ⟨b, 0, none⟩) hB u).setCell (p := ⟨b, 1, none⟩) hB v).setCell (p := ⟨b, 2, none⟩) hB t

/-- a token as a value -/
def tokV (k : Int) (t : List UInt8) (at_ : Nat) : Value := .agg #[.int .i64 k, .string (mkB t), .int .i64 (at_ : Int)]
/-- the code of a token -/
def ckT (k : Int) (t : List UInt8) : Int := if t = [] then 6 else if k = 0 ∧ 12 < t.length then 7 else if k = 1 then Kx.numC t else 0
theorem Kx.tw_len (l : List UInt8) : (l.take (l.takeWhile alC).length) = l.takeWhile alC := tw_take l
theorem ck_tk {l : List UInt8} (h : l ≠ []) : ckT (Kx.tk l).1 (l.take (Kx.tk l).2.1) = (Kx.tk l).2.2 := by
  rcases Kx.tk_cases l with rfl | ⟨c, r, rfl, h1 | ⟨h1, h2⟩ | ⟨h1, h2⟩⟩
  · exact absurd rfl h
  · have hp := Kx.run_pos (c := c) (l := r) (by unfold Kx.alC; rw [h1]; rfl)
    rw [Kx.tk_let h1]
    have hne : (c :: r).takeWhile Kx.alC ≠ [] := fun e => by rw [e] at hp; exact absurd hp (by decide)
    split
    · show ckT 2 ((c :: r).take ((c :: r).takeWhile Kx.alC).length) = 0
      rw [Kx.tw_take]; unfold ckT; rw [if_neg hne, if_neg (by simp), if_neg (by decide)]
    · show ckT 0 ((c :: r).take ((c :: r).takeWhile Kx.alC).length) = _
      rw [Kx.tw_take]; unfold ckT; rw [if_neg hne]
      by_cases hl : 12 < ((c :: r).takeWhile Kx.alC).length
      · rw [if_pos ⟨rfl, hl⟩, if_pos hl]
      · rw [if_neg (fun e => hl e.2), if_neg (by decide), if_neg hl]
  · have hp := Kx.run_pos (c := c) (l := r) (by unfold Kx.alC; rw [h2]; simp)
    have hne : (c :: r).takeWhile Kx.alC ≠ [] := fun e => by rw [e] at hp; exact absurd hp (by decide)
    rw [Kx.tk_dig h1 h2]
    show ckT 1 ((c :: r).take ((c :: r).takeWhile Kx.alC).length) = _
    rw [Kx.tw_take]; unfold ckT; rw [if_neg hne, if_neg (by simp), if_pos rfl]
  · rw [Kx.tk_sig h1 h2]
    show ckT 3 ((c :: r).take (Kx.sgN (c :: r))) = _
    unfold ckT
    by_cases hs : Kx.sgN (c :: r) = 0
    · rw [hs, if_pos (List.take_zero), if_pos rfl]
    · rw [if_neg (fun e => hs (by simpa using e)), if_neg (by simp), if_neg (by decide), if_neg hs]

theorem empty_yes {t : List UInt8} (h : t = []) : (mkB t).toList.isEmpty = true := by rw [bs_toList, bs_mk, h]; rfl
theorem empty_no {t : List UInt8} (h : t ≠ []) : (mkB t).toList.isEmpty = false := by rw [bs_toList, bs_mk]; cases t with | nil => exact absurd rfl h | cons _ _ => rfl

set_option maxRecDepth 100000 in
set_option maxHeartbeats 4000000 in
theorem check_any (k : Int) (t : List UInt8) (at_ : Nat) (ht : t.length ≤ 100000) (w : World) (hT : LexT w) :
    Calls Tryd.prog 50 #[tokV k t at_] w fun e w' => e = .returned (.int .i64 (ckT k t)) ∧ Below w.heap.size w w' := by
  have T0 := Three.new_ w (.int .i64 k) (.string (mkB t)) (.int .i64 (at_ : Int)) 40
  have hsz := mk_size t
  have b0 := al1 w (.cells #[.int .i64 k, .string (mkB t), .int .i64 (at_ : Int)] 40)
  have c0 := T0.c0
  have c1 := T0.c1
  by_cases h0 : t = []
  · have HR := Lib.hid (show ckT k t = 6 by unfold ckT; rw [if_pos h0])
    have he := empty_yes h0
    have Hsz := Lib.hid hsz
    clear h0 hsz
    unfold tokV
    go_enter Tryd.func50, Tryd.ntmps50
    go_wp2_with fail
    go_ret
    exact ⟨ret_int HR.out.symm, b0⟩
  have he := empty_no h0
  by_cases hk0 : k = 0
  · by_cases hl : 12 < t.length
    · have HR := Lib.hid (show ckT k t = 7 by unfold ckT; rw [if_neg h0, if_pos ⟨hk0, hl⟩])
      have hlI : (12 : Int) < ((mkB t).size : Int) := by omega
      subst hk0
      clear h0 hsz hl
      unfold tokV
      go_enter Tryd.func50, Tryd.ntmps50
      go_wp2_with fail
      go_ret
      exact ⟨ret_int HR.out.symm, b0⟩
    · have HR := Lib.hid (show ckT k t = 0 by unfold ckT; rw [if_neg h0, if_neg (fun e => hl e.2), if_neg (by rw [hk0]; decide)])
      have hlI : ¬ (12 : Int) < ((mkB t).size : Int) := by omega
      subst hk0
      clear h0 hsz hl
      unfold tokV
      go_enter Tryd.func50, Tryd.ntmps50
      go_wp2_with fail
      go_ret
      exact ⟨ret_int HR.out.symm, b0⟩
  · have q0 : (k == 0) = false := by simpa using hk0
    by_cases hk1 : k = 1
    · have HR := Lib.hid (show ckT k t = Kx.numC t by unfold ckT; rw [if_neg h0, if_neg (fun e => hk0 e.1), if_pos hk1])
      have hck := checkInt_any (mkB t) (by omega) (by rw [hsz]; exact List.length_pos_iff.2 h0) _ (hT.below b0)
      rw [bs_mk] at hck
      have HCK := Lib.hid hck
      subst hk1
      clear h0 hsz hk0 hck q0
      unfold tokV
      go_enter Tryd.func50, Tryd.ntmps50
      go_wp2_with fail
      refine HCK.out.mono ?_
      rintro e w' ⟨rfl, hb⟩
      go_wp2_with fail
      go_ret
      exact ⟨ret_int HR.out.symm, bTrans b0 hb⟩
    · have HR := Lib.hid (show ckT k t = 0 by unfold ckT; rw [if_neg h0, if_neg (fun e => hk0 e.1), if_neg hk1])
      have q1 : (k == 1) = false := by simpa using hk1
      clear h0 hsz hk0 hk1
      unfold tokV
      go_enter Tryd.func50, Tryd.ntmps50
      go_wp2_with fail
      go_ret
      exact ⟨ret_int HR.out.symm, b0⟩

set_option maxRecDepth 100000 in
set_option maxHeartbeats 4000000 in
theorem next_any (s : ByteArray) (at_ : Nat) (hs : s.size ≤ 100000) (hat : at_ < s.size) (w : World) (hT : LexT w) :
    Calls Tryd.prog 49 #[.string s, .int .i64 (at_ : Int)] w fun e w' => e = .returned (tokV (Kx.tk ((bs s).drop at_)).1 (((bs s).drop at_).take (Kx.tk ((bs s).drop at_)).2.1) at_) ∧ Below w.heap.size w w' := by
  have hatI : (at_ : Int) < (s.size : Int) := by omega
  have hatI2 : (at_ : Int) ≤ (s.size : Int) := by omega
  have hd := drop_at hat
  have hb2 : bs (s.extract at_ s.size) = (bs s).drop at_ := by rw [ext_from, bs_mk]
  have hes : (s.extract at_ s.size).size ≤ 100000 := by rw [← bs_length, hb2, List.length_drop, bs_length]; omega
  have hes0 : 0 < (s.extract at_ s.size).size := by rw [← bs_length, hb2, List.length_drop, bs_length]; omega
  have hrun : ∀ W, Calls Tryd.prog 55 #[.string (s.extract at_ s.size)] W fun e w' => e = .returned (.string (mkB (((bs s).drop at_).takeWhile Kx.alC))) ∧ W = w' := fun W => by
    have := run_any (s.extract at_ s.size) (by omega) W
    rw [hb2] at this; exact this
  have hsig : ∀ W, Calls Tryd.prog 74 #[.string (s.extract at_ s.size)] W fun e w' => e = .returned (.string (mkB (((bs s).drop at_).take (Kx.sgN ((bs s).drop at_))))) ∧ W = w' := fun W => by
    have := sign_any (s.extract at_ s.size) (by omega) hes0 W
    rw [hb2] at this; exact this
  have HRUN := Lib.hid hrun
  have HSIG := Lib.hid hsig
  have T0 := Three.new_ w (.int .i64 0) (.string ⟨#[]⟩) (.int .i64 0) 40
  have b0 := al1 w (.cells #[.int .i64 0, .string ⟨#[]⟩, .int .i64 0] 40)
  clear hrun hsig hb2 hes hes0
  have hbox := Lib.hid (Nat.le_refl w.heap.size)
  cases h1 : Kx.letC s[at_] with
  | true =>
    have htk0 : Kx.tk ((bs s).drop at_) = (if Kx.resB (((bs s).drop at_).takeWhile Kx.alC) then (2, (((bs s).drop at_).takeWhile Kx.alC).length, 0) else (0, (((bs s).drop at_).takeWhile Kx.alC).length, if 12 < (((bs s).drop at_).takeWhile Kx.alC).length then 7 else 0)) := by rw [hd]; exact Kx.tk_let h1
    have htk := Lib.hid htk0
    clear htk0
    have HD := Lib.hid hd
    have H1 := Lib.hid h1
    clear hd h1
    have htw := Lib.hid (Kx.tw_take ((bs s).drop at_))
    revert HRUN HSIG htk htw
    generalize (bs s).drop at_ = l
    intro HRUN HSIG htk htw
    have hres : ∀ W, LexT W → Calls Tryd.prog 27 #[.string (mkB (l.takeWhile Kx.alC))] W fun e W' => e = .returned (.bool (Kx.resB (l.takeWhile Kx.alC))) ∧ Below W.heap.size W W' := fun W hW => by
      have := reserved_any (mkB (l.takeWhile Kx.alC)) W hW.sp
      rw [bs_mk] at this; exact this
    have HRES := Lib.hid hres
    clear hres
    go_enter Tryd.func49, Tryd.ntmps49
    go_wp2_with fail
    refine (letter_c _ _).mono ?_
    rintro e w' ⟨rfl, rfl⟩
    rw [H1.out]
    go_wp2_with fail
    refine (HRUN.out _).mono ?_
    rintro e w' ⟨rfl, rfl⟩
    go_wp2_with fail
    refine (HRES.out _ (hT.below b0)).mono ?_
    rintro e w1 ⟨rfl, b1⟩
    have T1 := T0.below b1 T0.lt
    replace b1 := bTrans b0 b1
    clear T0 b0
    have d0 := T1.c0
    have d1 := T1.c1
    have d2 := T1.c2
    have f0 := T1.fr 0
    have f1 := T1.fr 1
    have f2 := T1.fr 2
    cases hr : Kx.resB (l.takeWhile Kx.alC) with
    | true =>
      have HT := Lib.hid (show tokV (Kx.tk l).1 (l.take (Kx.tk l).2.1) at_ = tokV 2 (l.takeWhile Kx.alC) at_ by rw [htk.out, hr, if_pos rfl, htw.out])
      clear hr
      go_wp2_with fail
      have T9 := T1.put (.int .i64 2) (.string (mkB (l.takeWhile Kx.alC))) (.int .i64 (at_ : Int))
      have r0 := T9.c0
      have r1 := T9.c1
      have r2 := T9.c2
      refine bodyPost_ret (v := tokV 2 (l.takeWhile Kx.alC) at_) (by simp [results, Tryd.results49, go_sem, r0, r1, r2, tokV]) rfl ?_
      exact ⟨by rw [HT.out], put3 b1 hbox.out _ _ _⟩
    | false =>
      have HT := Lib.hid (show tokV (Kx.tk l).1 (l.take (Kx.tk l).2.1) at_ = tokV 0 (l.takeWhile Kx.alC) at_ by rw [htk.out, hr, if_neg (by decide), htw.out])
      clear hr
      go_wp2_with fail
      have T9 := T1.put (.int .i64 0) (.string (mkB (l.takeWhile Kx.alC))) (.int .i64 (at_ : Int))
      have r0 := T9.c0
      have r1 := T9.c1
      have r2 := T9.c2
      refine bodyPost_ret (v := tokV 0 (l.takeWhile Kx.alC) at_) (by simp [results, Tryd.results49, go_sem, r0, r1, r2, tokV]) rfl ?_
      exact ⟨by rw [HT.out], put3 b1 hbox.out _ _ _⟩
  | false =>
    cases h2 : Kx.digC s[at_] with
    | true =>
      have htk0 : Kx.tk ((bs s).drop at_) = (1, (((bs s).drop at_).takeWhile Kx.alC).length, Kx.numC (((bs s).drop at_).takeWhile Kx.alC)) := by rw [hd]; exact Kx.tk_dig h1 h2
      have htk := Lib.hid htk0
      clear htk0
      have HD := Lib.hid hd
      have H1 := Lib.hid h1
      have H2 := Lib.hid h2
      clear hd h1 h2
      have htw := Lib.hid (Kx.tw_take ((bs s).drop at_))
      revert HRUN HSIG htk htw
      generalize (bs s).drop at_ = l
      intro HRUN HSIG htk htw
      have HT := Lib.hid (show tokV (Kx.tk l).1 (l.take (Kx.tk l).2.1) at_ = tokV 1 (l.takeWhile Kx.alC) at_ by rw [htk.out, htw.out])
      go_enter Tryd.func49, Tryd.ntmps49
      go_wp2_with fail
      refine (letter_c _ _).mono ?_
      rintro e w' ⟨rfl, rfl⟩
      rw [H1.out]
      go_wp2_with fail
      refine (digit_c _ _).mono ?_
      rintro e w' ⟨rfl, rfl⟩
      rw [H2.out]
      go_wp2_with fail
      refine (HRUN.out _).mono ?_
      rintro e w' ⟨rfl, rfl⟩
      go_wp2_with fail
      refine bodyPost_ret (v := tokV 1 (l.takeWhile Kx.alC) at_) (by simp [results, Tryd.results49, go_sem, tokV]) rfl ?_
      exact ⟨by rw [HT.out], al1 w _⟩
    | false =>
      have htk0 : Kx.tk ((bs s).drop at_) = (3, Kx.sgN ((bs s).drop at_), if Kx.sgN ((bs s).drop at_) = 0 then 6 else 0) := by rw [hd]; exact Kx.tk_sig h1 h2
      have htk := Lib.hid htk0
      clear htk0
      have HD := Lib.hid hd
      have H1 := Lib.hid h1
      have H2 := Lib.hid h2
      clear hd h1 h2
      revert HRUN HSIG htk
      generalize (bs s).drop at_ = l
      intro HRUN HSIG htk
      have HT := Lib.hid (show tokV (Kx.tk l).1 (l.take (Kx.tk l).2.1) at_ = tokV 3 (l.take (Kx.sgN l)) at_ by rw [htk.out])
      go_enter Tryd.func49, Tryd.ntmps49
      go_wp2_with fail
      refine (letter_c _ _).mono ?_
      rintro e w' ⟨rfl, rfl⟩
      rw [H1.out]
      go_wp2_with fail
      refine (digit_c _ _).mono ?_
      rintro e w' ⟨rfl, rfl⟩
      rw [H2.out]
      go_wp2_with fail
      refine (HSIG.out _).mono ?_
      rintro e w' ⟨rfl, rfl⟩
      go_wp2_with fail
      refine bodyPost_ret (v := tokV 3 (l.take (Kx.sgN l)) at_) (by simp [results, Tryd.results49, go_sem, tokV]) rfl ?_
      exact ⟨by rw [HT.out], al1 w _⟩
end Go.Proofs.YtcckocaaoklibaaDoor
