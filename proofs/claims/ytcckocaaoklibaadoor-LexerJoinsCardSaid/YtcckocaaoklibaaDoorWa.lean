/- Walks: the reference's token. -/
import Derived.Test.YtcckocaaoklibaaDoorW9
namespace Go.Proofs.YtcckocaaoklibaaDoor
open Go.RowKit
set_option linter.unusedVariables false

/-- what the reference's token hands back -/
def RtkRes (l : List UInt8) (at_ : Nat) (w : World) (e : Ending) (w' : World) : Prop :=
  Below w.heap.size w w' ∧ (((Kx.tk l).2.2 = 0 ∧ e = .returned (.tuple #[tokV (Kx.tk l).1 (l.take (Kx.tk l).2.1) at_, .int .i64 0])) ∨ ((Kx.tk l).2.2 ≠ 0 ∧ e = .returned (.tuple #[tokV 0 [] 0, .int .i64 (Kx.tk l).2.2])))
theorem RtkRes.good {l : List UInt8} {at_ n : Nat} {k : Int} {t : List UInt8} {w w' : World} (h : Kx.tk l = (k, n, 0)) (ht : l.take n = t) (hb : Below w.heap.size w w') : RtkRes l at_ w (.returned (.tuple #[tokV k t at_, .int .i64 0])) w' :=
  ⟨hb, .inl ⟨by rw [h], by rw [h, ht]⟩⟩
theorem RtkRes.bad {l : List UInt8} {at_ n : Nat} {k c : Int} {w w' : World} (h : Kx.tk l = (k, n, c)) (hc : c ≠ 0) (hb : Below w.heap.size w w') : RtkRes l at_ w (.returned (.tuple #[tokV 0 [] 0, .int .i64 c])) w' :=
  ⟨hb, .inr ⟨by rw [h]; exact hc, by rw [h]⟩⟩
theorem ext_mid (s : ByteArray) (a n : Nat) : s.extract a (a + n) = mkB (((bs s).drop a).take n) := bs_inj (by rw [bs_mk, bs_extract, List.drop_take, show a + n - a = n by omega])
theorem mkB_nil : mkB [] = (⟨#[]⟩ : ByteArray) := rfl

set_option maxRecDepth 100000 in
set_option maxHeartbeats 4000000 in
theorem rtoken_let (s : ByteArray) (at_ : Nat) (hs : s.size ≤ 100000) (hat : at_ < s.size) (h1 : Kx.letC s[at_] = true) (w : World) :
    Calls Tryd.prog 52 #[.string s, .int .i64 (at_ : Int)] w (RtkRes ((bs s).drop at_) at_ w) := by
  have hatI : (at_ : Int) < (s.size : Int) := by omega
  have b0 := al1 w (.cells #[.int .i64 0, .string ⟨#[]⟩, .int .i64 0] 40)
  have htk0 : Kx.tk ((bs s).drop at_) = (if Kx.resB (((bs s).drop at_).takeWhile Kx.alC) then (2, (((bs s).drop at_).takeWhile Kx.alC).length, 0) else (0, (((bs s).drop at_).takeWhile Kx.alC).length, if 12 < (((bs s).drop at_).takeWhile Kx.alC).length then 7 else 0)) := by rw [drop_at hat]; exact Kx.tk_let h1
  have HTK := Lib.hid htk0
  have htw := Lib.hid (Kx.tw_take ((bs s).drop at_))
  have hle := Kx.run_le ((bs s).drop at_)
  rw [List.length_drop, bs_length] at hle
  have hrun : ∀ W, Calls Tryd.prog 58 #[.string s, .int .i64 (at_ : Int)] W fun e w' => e = .returned (.int .i64 ((at_ + (((bs s).drop at_).takeWhile Kx.alC).length : Nat) : Int)) ∧ W = w' := fun W => rrun_any s at_ (by omega) (by omega) W
  have hext := ext_mid s at_ (((bs s).drop at_).takeWhile Kx.alC).length
  rw [htw.out] at hext
  have hres : ∀ W, Calls Tryd.prog 29 #[.string (s.extract at_ (at_ + (((bs s).drop at_).takeWhile Kx.alC).length))] W fun e w' => e = .returned (.bool (Kx.resB (((bs s).drop at_).takeWhile Kx.alC))) ∧ W = w' := fun W => by
    have := rreserved_any (s.extract at_ (at_ + (((bs s).drop at_).takeWhile Kx.alC).length)) (by rw [hext, mk_size]; omega) W
    rw [hext, bs_mk] at this
    rw [hext]; exact this
  have hsz : (s.extract at_ (at_ + (((bs s).drop at_).takeWhile Kx.alC).length)).size = (((bs s).drop at_).takeWhile Kx.alC).length := by rw [hext, mk_size]
  have HRUN := Lib.hid hrun
  have HRES := Lib.hid hres
  have HEXT := Lib.hid hext
  have H1 := Lib.hid h1
  have hres2 : Hid (∀ c : Prop, c → c) := Lib.hid fun _ h => h
  clear h1 htk0 hrun hext hres hres2
  revert HTK htw HRUN HRES HEXT hle hsz
  generalize ((bs s).drop at_).takeWhile Kx.alC = t
  generalize (bs s).drop at_ = l
  intro HTK htw hle hsz HRUN HRES HEXT
  obtain ⟨m, hm⟩ : ∃ m, t.length = m := ⟨_, rfl⟩
  rw [hm] at HTK htw hle hsz HRUN HRES HEXT
  have HM := Lib.hid hm
  clear hm
  have hsumI : (at_ : Int) ≤ ((at_ + m : Nat) : Int) := by omega
  have hsumI2 : ((at_ + m : Nat) : Int) ≤ (s.size : Int) := by omega
  have hsum1 : at_ ≤ at_ + m := by omega
  have hsum2 : at_ + m ≤ s.size := by omega
  cases hr : Kx.resB t with
  | true =>
    have HR := Lib.hid hr
    have HT := Lib.hid (show Kx.tk l = (2, m, 0) by rw [HTK.out, hr]; rfl)
    clear hr
    go_enter Tryd.func52, Tryd.ntmps52
    go_wp2_with fail
    refine (HRUN.out _).mono ?_
    rintro e w' ⟨rfl, rfl⟩
    go_wp2_with fail
    refine (rletter_c _ _).mono ?_
    rintro e w' ⟨rfl, rfl⟩
    rw [H1.out]
    go_wp2_with fail
    refine (HRES.out _).mono ?_
    rintro e w' ⟨rfl, rfl⟩
    rw [HR.out]
    go_wp2_with fail
    refine bodyPost_ret (v := .tuple #[tokV 2 t at_, .int .i64 0]) (by simp [results, Tryd.results52, go_sem, tokV, HEXT.out]) rfl ?_
    exact RtkRes.good HT.out htw.out (al1 w _)
  | false =>
    by_cases hl : 12 < m
    · have HR := Lib.hid hr
      have HT := Lib.hid (show Kx.tk l = (0, m, 7) by rw [HTK.out, hr, if_neg (by decide), if_pos hl])
      have hlI : (12 : Int) < (m : Int) := by omega
      clear hr
      go_enter Tryd.func52, Tryd.ntmps52
      go_wp2_with fail
      refine (HRUN.out _).mono ?_
      rintro e w' ⟨rfl, rfl⟩
      go_wp2_with fail
      refine (rletter_c _ _).mono ?_
      rintro e w' ⟨rfl, rfl⟩
      rw [H1.out]
      go_wp2_with fail
      refine (HRES.out _).mono ?_
      rintro e w' ⟨rfl, rfl⟩
      rw [HR.out]
      go_wp2_with fail
      refine bodyPost_ret (v := .tuple #[tokV 0 [] 0, .int .i64 7]) (by simp [results, Tryd.results52, go_sem, tokV, mkB_nil]) rfl ?_
      exact RtkRes.bad HT.out (by decide) (al1 w _)
    · have HR := Lib.hid hr
      have HT := Lib.hid (show Kx.tk l = (0, m, 0) by rw [HTK.out, hr, if_neg (by decide), if_neg hl])
      have hlI : ¬ (12 : Int) < (m : Int) := by omega
      clear hr
      go_enter Tryd.func52, Tryd.ntmps52
      go_wp2_with fail
      refine (HRUN.out _).mono ?_
      rintro e w' ⟨rfl, rfl⟩
      go_wp2_with fail
      refine (rletter_c _ _).mono ?_
      rintro e w' ⟨rfl, rfl⟩
      rw [H1.out]
      go_wp2_with fail
      refine (HRES.out _).mono ?_
      rintro e w' ⟨rfl, rfl⟩
      rw [HR.out]
      go_wp2_with fail
      refine bodyPost_ret (v := .tuple #[tokV 0 t at_, .int .i64 0]) (by simp [results, Tryd.results52, go_sem, tokV, HEXT.out]) rfl ?_
      exact RtkRes.good HT.out htw.out (al1 w _)

set_option maxRecDepth 100000 in
set_option maxHeartbeats 4000000 in
theorem rtoken_dig (s : ByteArray) (at_ : Nat) (hs : s.size ≤ 100000) (hat : at_ < s.size) (h1 : Kx.letC s[at_] = false) (h2 : Kx.digC s[at_] = true) (w : World) :
    Calls Tryd.prog 52 #[.string s, .int .i64 (at_ : Int)] w (RtkRes ((bs s).drop at_) at_ w) := by
  have hatI : (at_ : Int) < (s.size : Int) := by omega
  have htk0 : Kx.tk ((bs s).drop at_) = (1, (((bs s).drop at_).takeWhile Kx.alC).length, Kx.numC (((bs s).drop at_).takeWhile Kx.alC)) := by rw [drop_at hat]; exact Kx.tk_dig h1 h2
  have HTK := Lib.hid htk0
  have htw := Lib.hid (Kx.tw_take ((bs s).drop at_))
  have hle := Kx.run_le ((bs s).drop at_)
  rw [List.length_drop, bs_length] at hle
  have hpos : 0 < (((bs s).drop at_).takeWhile Kx.alC).length := by rw [drop_at hat]; exact Kx.run_pos (by unfold Kx.alC; rw [h2]; simp)
  have hrun : ∀ W, Calls Tryd.prog 58 #[.string s, .int .i64 (at_ : Int)] W fun e w' => e = .returned (.int .i64 ((at_ + (((bs s).drop at_).takeWhile Kx.alC).length : Nat) : Int)) ∧ W = w' := fun W => rrun_any s at_ (by omega) (by omega) W
  have hext := ext_mid s at_ (((bs s).drop at_).takeWhile Kx.alC).length
  rw [htw.out] at hext
  have hnum : ∀ W, Calls Tryd.prog 77 #[.string (s.extract at_ (at_ + (((bs s).drop at_).takeWhile Kx.alC).length))] W fun e w' => e = .returned (.int .i64 (Kx.numC (((bs s).drop at_).takeWhile Kx.alC))) ∧ W = w' := fun W => by
    have := rnumber_any (s.extract at_ (at_ + (((bs s).drop at_).takeWhile Kx.alC).length)) (by rw [hext, mk_size]; omega) (by rw [hext, mk_size]; omega) W
    rw [hext, bs_mk] at this
    rw [hext]; exact this
  have HRUN := Lib.hid hrun
  have HNUM := Lib.hid hnum
  have HEXT := Lib.hid hext
  have H1 := Lib.hid h1
  have H2 := Lib.hid h2
  clear h1 h2 htk0 hrun hext hnum hpos
  revert HTK htw HRUN HNUM HEXT hle
  generalize ((bs s).drop at_).takeWhile Kx.alC = t
  generalize (bs s).drop at_ = l
  intro HTK htw hle HRUN HNUM HEXT
  obtain ⟨m, hm⟩ : ∃ m, t.length = m := ⟨_, rfl⟩
  rw [hm] at HTK htw hle HRUN HNUM HEXT
  clear hm
  have hsumI : (at_ : Int) ≤ ((at_ + m : Nat) : Int) := by omega
  have hsumI2 : ((at_ + m : Nat) : Int) ≤ (s.size : Int) := by omega
  have hsum1 : at_ ≤ at_ + m := by omega
  have hsum2 : at_ + m ≤ s.size := by omega
  by_cases hc : Kx.numC t = 0
  · have HC := Lib.hid hc
    have HT := Lib.hid (show Kx.tk l = (1, m, 0) by rw [HTK.out, hc])
    clear hc
    go_enter Tryd.func52, Tryd.ntmps52
    go_wp2_with fail
    refine (HRUN.out _).mono ?_
    rintro e w' ⟨rfl, rfl⟩
    go_wp2_with fail
    refine (rletter_c _ _).mono ?_
    rintro e w' ⟨rfl, rfl⟩
    rw [H1.out]
    go_wp2_with fail
    refine (rdigit_c _ _).mono ?_
    rintro e w' ⟨rfl, rfl⟩
    rw [H2.out]
    go_wp2_with fail
    refine (HNUM.out _).mono ?_
    rintro e w' ⟨rfl, rfl⟩
    rw [HC.out]
    go_wp2_with fail
    refine bodyPost_ret (v := .tuple #[tokV 1 t at_, .int .i64 0]) (by simp [results, Tryd.results52, go_sem, tokV, HEXT.out]) rfl ?_
    exact RtkRes.good HT.out htw.out (al1 w _)
  · have HC := Lib.hid hc
    have HT := Lib.hid (show Kx.tk l = (1, m, Kx.numC t) by rw [HTK.out])
    have q := show (Kx.numC t != 0) = true by simpa using hc
    clear hc
    go_enter Tryd.func52, Tryd.ntmps52
    go_wp2_with fail
    refine (HRUN.out _).mono ?_
    rintro e w' ⟨rfl, rfl⟩
    go_wp2_with fail
    refine (rletter_c _ _).mono ?_
    rintro e w' ⟨rfl, rfl⟩
    rw [H1.out]
    go_wp2_with fail
    refine (rdigit_c _ _).mono ?_
    rintro e w' ⟨rfl, rfl⟩
    rw [H2.out]
    go_wp2_with fail
    refine (HNUM.out _).mono ?_
    rintro e w' ⟨rfl, rfl⟩
    go_wp2_with fail
    refine bodyPost_ret (v := .tuple #[tokV 0 [] 0, .int .i64 (Kx.numC t)]) (by simp [results, Tryd.results52, go_sem, tokV, mkB_nil]) rfl ?_
    exact RtkRes.bad HT.out HC.out (al1 w _)

set_option maxRecDepth 100000 in
set_option maxHeartbeats 4000000 in
theorem rtoken_sig (s : ByteArray) (at_ : Nat) (hs : s.size ≤ 100000) (hat : at_ < s.size) (h1 : Kx.letC s[at_] = false) (h2 : Kx.digC s[at_] = false) (w : World) :
    Calls Tryd.prog 52 #[.string s, .int .i64 (at_ : Int)] w (RtkRes ((bs s).drop at_) at_ w) := by
  have hatI : (at_ : Int) < (s.size : Int) := by omega
  have htk0 : Kx.tk ((bs s).drop at_) = (3, Kx.sgN ((bs s).drop at_), if Kx.sgN ((bs s).drop at_) = 0 then 6 else 0) := by rw [drop_at hat]; exact Kx.tk_sig h1 h2
  have HTK := Lib.hid htk0
  have hrun : ∀ W, ∃ z : Int, Calls Tryd.prog 58 #[.string s, .int .i64 (at_ : Int)] W fun e w' => e = .returned (.int .i64 z) ∧ W = w' := fun W => ⟨_, rrun_any s at_ (by omega) (by omega) W⟩
  have HRUN := Lib.hid hrun
  have he1 := ext_mid s at_ 1
  have hd := drop_at hat
  have hone : (s.extract at_ (at_ + 1)).toList = [s[at_]] := by rw [he1, bs_toList, bs_mk, hd]; rfl
  have hsg1 := fun W => isSign_one (s.extract at_ (at_ + 1)) s[at_] hone W
  have HS1 := Lib.hid hsg1
  have HE1 := Lib.hid he1
  have H1 := Lib.hid h1
  have H2 := Lib.hid h2
  have i1 : (at_ : Int) + 1 ≤ (s.size : Int) := by omega
  have i1' : (at_ : Int) ≤ (at_ : Int) + 1 := by omega
  clear h1 h2 htk0 hrun he1 hone hsg1
  by_cases h2s : at_ + 2 ≤ s.size
  · have i2 : (at_ : Int) + 2 ≤ (s.size : Int) := by omega
    have i2' : (at_ : Int) ≤ (at_ : Int) + 2 := by omega
    have h12 : at_ + 1 < s.size := by omega
    have he2 := ext_mid s at_ 2
    have hd2 := drop_at h12
    have htwo : (s.extract at_ (at_ + 2)).toList = [s[at_], s[at_ + 1]] := by rw [he2, bs_toList, bs_mk, hd, hd2]; rfl
    have hsg : Kx.sgN ((bs s).drop at_) = if Kx.dbl.contains (s[at_], s[at_ + 1]) then 2 else if Kx.sgl.contains s[at_] then 1 else 0 := by rw [hd, hd2]; rfl
    have hsg2 := fun W => isSign_two (s.extract at_ (at_ + 2)) s[at_] s[at_ + 1] htwo W
    have HS2 := Lib.hid hsg2
    have HE2 := Lib.hid he2
    have HSG := Lib.hid hsg
    clear hd hd2 he2 htwo hsg hsg2
    revert HS1 HS2 HSG
    generalize Kx.dbl.contains (s[at_], s[at_ + 1]) = B2
    generalize Kx.sgl.contains s[at_] = B1
    intro HS1 HS2 HSG
    obtain ⟨z, hz⟩ := HRUN.out (w.alloc (.cells #[.int .i64 0, .string ⟨#[]⟩, .int .i64 0] 40))
    have HZ := Lib.hid hz
    clear hz
    cases B2 with
    | true =>
      have HT := Lib.hid (show Kx.tk ((bs s).drop at_) = (3, 2, 0) by rw [HTK.out, HSG.out]; rfl)
      go_enter Tryd.func52, Tryd.ntmps52
      go_wp2_with fail
      refine HZ.out.mono ?_
      rintro e w' ⟨rfl, rfl⟩
      go_wp2_with fail
      refine (rletter_c _ _).mono ?_
      rintro e w' ⟨rfl, rfl⟩
      rw [H1.out]
      go_wp2_with fail
      refine (rdigit_c _ _).mono ?_
      rintro e w' ⟨rfl, rfl⟩
      rw [H2.out]
      go_wp2_with fail
      refine (HS2.out _).mono ?_
      rintro e w' ⟨rfl, rfl⟩
      go_wp2_with fail
      refine bodyPost_ret (v := .tuple #[tokV 3 (((bs s).drop at_).take 2) at_, .int .i64 0]) (by simp [results, Tryd.results52, go_sem, tokV, HE2.out]) rfl ?_
      exact RtkRes.good HT.out rfl (al1 w _)
    | false =>
      cases B1 with
      | true =>
        have HT := Lib.hid (show Kx.tk ((bs s).drop at_) = (3, 1, 0) by rw [HTK.out, HSG.out]; rfl)
        go_enter Tryd.func52, Tryd.ntmps52
        go_wp2_with fail
        refine HZ.out.mono ?_
        rintro e w' ⟨rfl, rfl⟩
        go_wp2_with fail
        refine (rletter_c _ _).mono ?_
        rintro e w' ⟨rfl, rfl⟩
        rw [H1.out]
        go_wp2_with fail
        refine (rdigit_c _ _).mono ?_
        rintro e w' ⟨rfl, rfl⟩
        rw [H2.out]
        go_wp2_with fail
        refine (HS2.out _).mono ?_
        rintro e w' ⟨rfl, rfl⟩
        go_wp2_with fail
        refine (HS1.out _).mono ?_
        rintro e w' ⟨rfl, rfl⟩
        go_wp2_with fail
        refine bodyPost_ret (v := .tuple #[tokV 3 (((bs s).drop at_).take 1) at_, .int .i64 0]) (by simp [results, Tryd.results52, go_sem, tokV, HE1.out]) rfl ?_
        exact RtkRes.good HT.out rfl (al1 w _)
      | false =>
        have HT := Lib.hid (show Kx.tk ((bs s).drop at_) = (3, 0, 6) by rw [HTK.out, HSG.out]; rfl)
        go_enter Tryd.func52, Tryd.ntmps52
        go_wp2_with fail
        refine HZ.out.mono ?_
        rintro e w' ⟨rfl, rfl⟩
        go_wp2_with fail
        refine (rletter_c _ _).mono ?_
        rintro e w' ⟨rfl, rfl⟩
        rw [H1.out]
        go_wp2_with fail
        refine (rdigit_c _ _).mono ?_
        rintro e w' ⟨rfl, rfl⟩
        rw [H2.out]
        go_wp2_with fail
        refine (HS2.out _).mono ?_
        rintro e w' ⟨rfl, rfl⟩
        go_wp2_with fail
        refine (HS1.out _).mono ?_
        rintro e w' ⟨rfl, rfl⟩
        go_wp2_with fail
        refine bodyPost_ret (v := .tuple #[tokV 0 [] 0, .int .i64 6]) (by simp [results, Tryd.results52, go_sem, tokV, mkB_nil]) rfl ?_
        exact RtkRes.bad HT.out (by decide) (al1 w _)
  · have i2 : ¬ (at_ : Int) + 2 ≤ (s.size : Int) := by omega
    have hsg : Kx.sgN ((bs s).drop at_) = if Kx.sgl.contains s[at_] then 1 else 0 := by
      rw [hd, List.drop_of_length_le (by rw [bs_length]; omega)]; rfl
    have HSG := Lib.hid hsg
    clear hd hsg
    revert HS1 HSG
    generalize Kx.sgl.contains s[at_] = B1
    intro HS1 HSG
    obtain ⟨z, hz⟩ := HRUN.out (w.alloc (.cells #[.int .i64 0, .string ⟨#[]⟩, .int .i64 0] 40))
    have HZ := Lib.hid hz
    clear hz
    cases B1 with
    | true =>
      have HT := Lib.hid (show Kx.tk ((bs s).drop at_) = (3, 1, 0) by rw [HTK.out, HSG.out]; rfl)
      go_enter Tryd.func52, Tryd.ntmps52
      go_wp2_with fail
      refine HZ.out.mono ?_
      rintro e w' ⟨rfl, rfl⟩
      go_wp2_with fail
      refine (rletter_c _ _).mono ?_
      rintro e w' ⟨rfl, rfl⟩
      rw [H1.out]
      go_wp2_with fail
      refine (rdigit_c _ _).mono ?_
      rintro e w' ⟨rfl, rfl⟩
      rw [H2.out]
      go_wp2_with fail
      refine (HS1.out _).mono ?_
      rintro e w' ⟨rfl, rfl⟩
      go_wp2_with fail
      refine bodyPost_ret (v := .tuple #[tokV 3 (((bs s).drop at_).take 1) at_, .int .i64 0]) (by simp [results, Tryd.results52, go_sem, tokV, HE1.out]) rfl ?_
      exact RtkRes.good HT.out rfl (al1 w _)
    | false =>
      have HT := Lib.hid (show Kx.tk ((bs s).drop at_) = (3, 0, 6) by rw [HTK.out, HSG.out]; rfl)
      go_enter Tryd.func52, Tryd.ntmps52
      go_wp2_with fail
      refine HZ.out.mono ?_
      rintro e w' ⟨rfl, rfl⟩
      go_wp2_with fail
      refine (rletter_c _ _).mono ?_
      rintro e w' ⟨rfl, rfl⟩
      rw [H1.out]
      go_wp2_with fail
      refine (rdigit_c _ _).mono ?_
      rintro e w' ⟨rfl, rfl⟩
      rw [H2.out]
      go_wp2_with fail
      refine (HS1.out _).mono ?_
      rintro e w' ⟨rfl, rfl⟩
      go_wp2_with fail
      refine bodyPost_ret (v := .tuple #[tokV 0 [] 0, .int .i64 6]) (by simp [results, Tryd.results52, go_sem, tokV, mkB_nil]) rfl ?_
      exact RtkRes.bad HT.out (by decide) (al1 w _)

theorem rtoken_any (s : ByteArray) (at_ : Nat) (hs : s.size ≤ 100000) (hat : at_ < s.size) (w : World) :
    Calls Tryd.prog 52 #[.string s, .int .i64 (at_ : Int)] w (RtkRes ((bs s).drop at_) at_ w) := by
  cases h1 : Kx.letC s[at_] with
  | true => exact rtoken_let s at_ hs hat h1 w
  | false =>
    cases h2 : Kx.digC s[at_] with
    | true => exact rtoken_dig s at_ hs hat h1 h2 w
    | false => exact rtoken_sig s at_ hs hat h1 h2 w
end Go.Proofs.YtcckocaaoklibaaDoor
