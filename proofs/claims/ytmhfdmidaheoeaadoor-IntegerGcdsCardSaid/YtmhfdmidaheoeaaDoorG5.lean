/- Walks: gcdWords, Gcd. -/
import Derived.Test.YtmhfdmidaheoeaaDoorG4
import Derived.Test.YtmhfdmidaheoeaaDoorD2
import Derived.Test.YtmhfdmidaheoeaaDoorDz
import Derived.Test.YtmhfdmidaheoeaaDoorWi
namespace Go.Proofs.YtmhfdmidaheoeaaDoor
open Go.RowKit
set_option linter.unusedVariables false

/-- the world of gcdWords' loop -/
structure Gw (w wr : World) (A : Option Addr) (ca N : Nat) (B : Option Addr) (cb M : Nat) : Prop where
  a : Sl wr wr.heap.size A ca (Kn.dig N)
  b : Sl wr wr.heap.size B cb (Kn.dig M)
  bel : Below w.heap.size w wr
theorem Gw.name {w wr : World} {A B : Option Addr} {ca N cb M : Nat} (h : Gw w wr A ca N B cb M) : ∃ W, W = wr := ⟨_, rfl⟩
theorem two_small {n : Nat} (h : (Kn.dig n).length ≤ 2) : n < 18446744073709551616 := by
  have h1 := @Kn.dig_lt n
  have h2 := Kn.pw_mono h
  have h3 : Kn.pw 2 = 18446744073709551616 := by decide
  omega
theorem cmp_sign5 (N M : Nat) : decide (Kn.cmp N M < 0) = decide (N < M) := by
  rcases Nat.lt_trichotomy N M with h | h | h
  · rw [Kn.cmp_lt h, decide_eq_true h]; rfl
  · rw [h, Kn.cmp_self, decide_eq_false (Nat.lt_irrefl _)]; rfl
  · rw [Kn.cmp_gt h]; exact (decide_eq_false (p := N < M) (by omega)).symm

set_option maxRecDepth 100000 in
set_option maxHeartbeats 2000000 in
theorem gcdWords_any (N M : Nat) (A : Option Addr) (ca : Nat) (B : Option Addr) (cb : Nat) (w : World) (ha : Sl w w.heap.size A ca (Kn.dig N)) (hb : Sl w w.heap.size B cb (Kn.dig M)) (hla : (Kn.dig N).length ≤ 99999) (hlb : (Kn.dig M).length ≤ 99999) :
    Calls Tryd.prog 42 #[.slice A (Kn.dig N).length ca, .slice B (Kn.dig M).length cb] w (MagRes (Nat.gcd N M) w) := by
  obtain ⟨G, hG⟩ : ∃ G, Hid (G = Nat.gcd N M) := ⟨_, Lib.hid rfl⟩
  rw [← hG.out]
  have HCW := Lib.hid (compareWords_any A ca N B cb M w _ ha hb (by omega) (by omega))
  obtain ⟨cm, hcm⟩ : ∃ c, Hid (c = Kn.cmp N M) := ⟨_, Lib.hid rfl⟩
  have gcs := Lib.hid (cmp_sign5 N M)
  rw [← hcm.out] at gcs HCW
  go_enter Tryd.func42, Tryd.ntmps42
  go_wp2_with fail
  refine HCW.out.mono ?_
  rintro e w1 ⟨rfl, q, rfl⟩
  have ha1 : Sl (w.drewN q) (w.drewN q).heap.size A ca (Kn.dig N) := ha.drewN q
  have hb1 : Sl (w.drewN q) (w.drewN q).heap.size B cb (Kn.dig M) := hb.drewN q
  have bel := bDrew (Below.refl w.heap.size w) q
  revert ha1 hb1 bel
  generalize w.drewN q = w2
  intro ha1 hb1 bel
  go_upto_if 10 with (fail)
  go_cut [0, 1] (fun s0 s1 wx => ∃ X Y A c B d, s0 = .slice A (Kn.dig X).length c ∧ s1 = .slice B (Kn.dig Y).length d ∧ Gw w wx A c X B d Y ∧ Y ≤ X ∧ (Kn.dig X).length ≤ 99999 ∧ Hid (Nat.gcd X Y = G))
  case first =>
    by_cases h : N < M
    · have gc : decide (cm < 0) = true := by rw [gcs.out, decide_eq_true h]
      have gc2 : cm < 0 := of_decide_eq_true gc
      have HH := Lib.hid h
      clear h
      go_wp2_with fail
      go_meet
      exact ⟨M, N, B, cb, A, ca, rfl, rfl, ⟨hb1, ha1, bel⟩, Nat.le_of_lt HH.out, hlb, Lib.hid (by rw [hG.out, Nat.gcd_comm])⟩
    · have gc : decide (cm < 0) = false := by rw [gcs.out, decide_eq_false h]
      have gc2 : ¬ cm < 0 := of_decide_eq_false gc
      have HH := Lib.hid h
      clear h
      go_wp2_with fail
      go_meet
      exact ⟨N, M, A, ca, B, cb, rfl, rfl, ⟨ha1, hb1, bel⟩, by have := HH.out; omega, hla, Lib.hid hG.out.symm⟩
  case rest =>
    clear ha hb ha1 hb1 HCW gcs bel
    obtain ⟨X0, Y0, A0, c0, B0, d0, rfl, rfl, I0, hyx0, hx0l, HG0⟩ := hcut
    obtain ⟨w3, rfl⟩ := I0.name
    go_wp2_with fail
    go_loopw [0, 1] (fun s0 s1 wx => ∃ X Y A c B d, s0 = .slice A (Kn.dig X).length c ∧ s1 = .slice B (Kn.dig Y).length d ∧ Gw w wx A c X B d Y ∧ Y ≤ X ∧ (Kn.dig X).length ≤ 99999 ∧ Hid (Nat.gcd X Y = G)) (fun s0 s1 wx => rdVal wx s0 + rdVal wx s1)
    case atStart => exact ⟨X0, Y0, A0, c0, B0, d0, rfl, rfl, I0, hyx0, hx0l, HG0⟩
    case round =>
      clear I0 HG0 hyx0 hx0l
      obtain ⟨X, Y, A, c, B, d, rfl, rfl, I, hyx, hxl, HG⟩ := hrel
      have hyl : (Kn.dig Y).length ≤ (Kn.dig X).length := Kn.dig_len_le (Nat.lt_of_le_of_lt hyx Kn.dig_lt)
      by_cases h2 : 2 < (Kn.dig Y).length
      · have g2 : decide ((2 : Int) < ((Kn.dig Y).length : Int)) = true := by simp; omega
        go_wp2_with fail
        refine (shrink_any X Y A c B d wr I.a I.b hyx (by omega) (by omega)).mono ?_
        rintro e w4 ⟨X', Y', A', c', B', d', rfl, hsh, S1, S2, hb4⟩
        obtain ⟨sh1, sh2, sh3, sh4⟩ := hsh
        have HMS := Lib.hid (show rdVal w4 (.slice A' (Kn.dig X').length c') + rdVal w4 (.slice B' (Kn.dig Y').length d') < rdVal wr (.slice A (Kn.dig X).length c) + rdVal wr (.slice B (Kn.dig Y).length d) by rw [rdVal_dig S1, rdVal_dig S2, rdVal_dig I.a, rdVal_dig I.b]; exact sh3)
        have J : Gw w w4 A' c' X' B' d' Y' := ⟨S1, S2, I.bel.trans (hb4.mono I.bel.size)⟩
        have hx' : (Kn.dig X').length ≤ 99999 := Nat.le_trans (Kn.dig_len_le (Nat.lt_of_le_of_lt sh4 Kn.dig_lt)) hxl
        have HG2 : Hid (Nat.gcd X' Y' = G) := Lib.hid (by rw [sh2]; exact HG.out)
        have H1 := Lib.hid sh1
        clear sh1 sh2 sh3 sh4 I hb4 h2 g2
        go_wp2_with fail
        go_roundw
        case rel => exact ⟨X', Y', A', c', B', d', rfl, rfl, J, H1.out, hx', HG2⟩
        case measure => exact HMS.out
      · have g2 : decide ((2 : Int) < ((Kn.dig Y).length : Int)) = false := by simp; omega
        have hyl2 : (Kn.dig Y).length ≤ 2 := by omega
        rcases Nat.eq_zero_or_pos Y with hy0 | hy0
        · subst hy0
          have hXG : Hid (X = G) := Lib.hid (by rw [← HG.out, Nat.gcd_zero_right])
          have HCL := Lib.hid (clone_any A c _ wr I.a (by omega))
          rw [hXG.out] at HCL
          have hz0 : (Kn.dig 0).length = 0 := by rw [Kn.dig_zero]; rfl
          rw [hz0]
          clear hz0 h2 g2 hyl hyl2 hxl
          rw [hXG.out]
          go_wp2_with fail
          refine HCL.out.mono ?_
          rintro e w4 ⟨A', c', rfl, S1, hb4⟩
          go_wp2_with fail
          go_ret
          exact ⟨A', c', rfl, S1, I.bel.trans (hb4.mono I.bel.size)⟩
        · have hyp := Kn.dig_len_pos.2 hy0
          have gz : (((Kn.dig Y).length : Int) == 0) = false := by rw [beq_eq_false_iff_ne]; omega
          have hYs := two_small hyl2
          have HYS := Lib.hid hYs
          clear hYs
          by_cases hx2 : 2 < (Kn.dig X).length
          · have g3 : decide ((2 : Int) < ((Kn.dig X).length : Int)) = true := by simp; omega
            obtain ⟨R, hR⟩ : ∃ R, Hid (R = X % Y) := ⟨_, Lib.hid rfl⟩
            have hRY : R < Y := by rw [hR.out]; exact Nat.mod_lt _ hy0
            have hRl : (Kn.dig R).length ≤ 2 := Nat.le_trans (Kn.dig_len_le (Nat.lt_trans hRY Kn.dig_lt)) hyl2
            have HRS := Lib.hid (two_small hRl)
            have HG2 : Hid (Nat.gcd Y R = G) := Lib.hid (by rw [← HG.out, hR.out, Nat.gcd_comm X Y, Nat.gcd_rec Y X, Nat.gcd_comm])
            have HGS : Hid (G < 18446744073709551616) := Lib.hid (by rw [← HG2.out]; exact Nat.lt_of_le_of_lt (Nat.gcd_le_left _ hy0) HYS.out)
            go_wp2_with fail
            refine (divideWords_any X Y A c B d wr I.a I.b hy0 (by omega) (by omega)).mono ?_
            rintro e w4 ⟨A', c', B', d', rfl, S1, S2, hb4⟩
            rw [← hR.out] at S2 ⊢
            have hb := I.b.nx' hb4
            have bel := I.bel.trans (hb4.mono I.bel.size)
            go_wp2_with fail
            refine (join_any B d _ w4 _ hb hyl2).mono ?_
            rintro e w' ⟨rfl, rfl⟩
            rw [Kn.val_dig]
            go_wp2_with fail
            refine (join_any B' d' _ w4 _ S2 hRl).mono ?_
            rintro e w' ⟨rfl, rfl⟩
            rw [Kn.val_dig]
            go_wp2_with fail
            refine (gcdSmall_any Y R HYS HRS w4).mono ?_
            rintro e w5 ⟨rfl, q, rfl⟩
            rw [HG2.out]
            go_wp2_with fail
            refine (split_any G HGS (w4.drewN q)).mono ?_
            rintro e w6 ⟨A6, c6, rfl, S6, hb6⟩
            go_wp2_with fail
            go_ret
            exact ⟨A6, c6, rfl, S6, bel.trans (((bDrew (Below.refl _ _) q).trans hb6).mono bel.size)⟩
          · have g3 : decide ((2 : Int) < ((Kn.dig X).length : Int)) = false := by simp; omega
            have hxl2 : (Kn.dig X).length ≤ 2 := by omega
            have HXS := Lib.hid (two_small hxl2)
            have HGS : Hid (G < 18446744073709551616) := Lib.hid (by rw [← HG.out]; exact Nat.lt_of_le_of_lt (Nat.gcd_le_right _ hy0) HYS.out)
            go_wp2_with fail
            refine (join_any A c _ wr _ I.a hxl2).mono ?_
            rintro e w' ⟨rfl, rfl⟩
            rw [Kn.val_dig]
            go_wp2_with fail
            refine (join_any B d _ wr _ I.b hyl2).mono ?_
            rintro e w' ⟨rfl, rfl⟩
            rw [Kn.val_dig]
            go_wp2_with fail
            refine (gcdSmall_any X Y HXS HYS wr).mono ?_
            rintro e w5 ⟨rfl, q, rfl⟩
            rw [HG.out]
            go_wp2_with fail
            refine (split_any G HGS (wr.drewN q)).mono ?_
            rintro e w6 ⟨A6, c6, rfl, S6, hb6⟩
            go_wp2_with fail
            go_ret
            exact ⟨A6, c6, rfl, S6, I.bel.trans (((bDrew (Below.refl _ _) q).trans hb6).mono I.bel.size)⟩

theorem iv_false_dig' (n : Nat) : Kn.iv false (Kn.dig n) = (n : Int) := by rw [Kn.iv_d]; rfl

set_option maxRecDepth 100000 in
set_option maxHeartbeats 1000000 in
theorem gcd_any (nx : Bool) (A : Option Addr) (ca : Nat) (xs : List Nat) (ny : Bool) (B : Option Addr) (cb : Nat) (ys : List Nat) (w : World) (hx : Sl w w.heap.size A ca xs) (hy : Sl w w.heap.size B cb ys) (hlx : xs.length ≤ 99999) (hly : ys.length ≤ 99999) :
    Calls Tryd.prog 18 #[intV nx A xs.length ca, intV ny B ys.length cb] w (IntRes (Nat.gcd (Kn.val xs) (Kn.val ys) : Int) w) := by
  obtain ⟨G, hG⟩ : ∃ G, Hid (G = Nat.gcd (Kn.val xs) (Kn.val ys)) := ⟨_, Lib.hid rfl⟩
  rw [← hG.out]
  obtain ⟨z, hz⟩ : ∃ z : Int, Hid (z = (G : Int)) := ⟨_, Lib.hid rfl⟩
  rw [← hz.out]
  have hdx : (Kn.dig (Kn.val xs)).length ≤ 99999 := Nat.le_trans (Kn.dig_len_val hx.wd) hlx
  have hdy : (Kn.dig (Kn.val ys)).length ≤ 99999 := Nat.le_trans (Kn.dig_len_val hy.wd) hly
  have hGl : (Kn.dig G).length ≤ 99999 := by
    rcases Nat.eq_zero_or_pos (Kn.val xs) with h0 | h0
    · rw [hG.out, h0, Nat.gcd_zero_left]; exact hdy
    · rw [hG.out]; exact Nat.le_trans (Kn.dig_len_le (Nat.lt_of_le_of_lt (Nat.gcd_le_left _ h0) Kn.dig_lt)) hdx
  have HGW := Lib.hid (fun (W : World) (h1 : Sl W W.heap.size A ca (Kn.dig (Kn.val xs))) (h2 : Sl W W.heap.size B cb (Kn.dig (Kn.val ys))) => (by have := gcdWords_any (Kn.val xs) (Kn.val ys) A ca B cb W h1 h2 hdx hdy; rwa [← hG.out] at this : Calls Tryd.prog 42 #[.slice A (Kn.dig (Kn.val xs)).length ca, .slice B (Kn.dig (Kn.val ys)).length cb] W (MagRes G W)))
  have HSG := Lib.hid (fun (W : World) (C : Option Addr) (c : Nat) (h : Sl W W.heap.size C c (Kn.dig G)) => (by have := signed_any false C c (Kn.dig G) W h (by omega); rwa [iv_false_dig', ← hz.out] at this : Calls Tryd.prog 29 #[.bool false, .slice C (Kn.dig G).length c] W (IntRes z W)))
  unfold intV
  go_enter Tryd.func18, Tryd.ntmps18
  go_wp2_with fail
  have i := B3.new_ w nx A xs.length ca ny B ys.length cb 24
  revert i
  generalize ((w.alloc (.cells #[.bool nx, .slice A xs.length ca] 24)).alloc (.cells #[.bool ny, .slice B ys.length cb] 24)).alloc (.cells #[.bool false, .slice none 0 0] 24) = wx
  intro i
  replace i := i.drew
  have hX := (hx.below i.bel).more i.bel.size
  have hY := (hy.below i.bel).more i.bel.size
  go_region_held3 (fun w' => w'.cell? ⟨w.heap.size, 1, none⟩ = some (.slice A xs.length ca) ∧ w'.cell? ⟨w.heap.size + 1, 1, none⟩ = some (.slice B ys.length cb))
    (first | exact ⟨i.t1.c1, i.t2.c1⟩ | exact ⟨((i.t1.far (by simp; omega) _).far (by simp; omega) _).c1, ((i.t2.far (by simp) _).far (by simp) _).c1⟩)
    (first
      | (go_at_call 25; (with_reducible refine (trim_any A ca xs _ _ hX (by omega)).mono ?_); rintro e w' ⟨rfl, rfl⟩)
      | (go_at_call 25; (with_reducible refine (trim_any B cb ys _ _ hY (by omega)).mono ?_); rintro e w' ⟨rfl, rfl⟩)
      | (go_at_call 42; (with_reducible refine (HGW.out _ hX.trim hY.trim).mono ?_); rintro e w3 ⟨A3, c3, rfl, hS, hb3⟩; replace i := i.below hb3; clear hb3)
      | (go_at_call 29; (with_reducible refine (HSG.out _ _ _ hS).mono ?_); rintro e w4 ⟨A4, c4, rfl, hS4, hb4⟩; replace i := i.below hb4; clear hb4; have d20 := i.t3.c0; have d21 := i.t3.c1; have f20 := i.t3.fr 0; have f21 := i.t3.fr 1))
  all_goals
    have R := Lib.hid (two_set w4 (.bool (decide (z < 0))) (.slice A4 (Kn.dig z.natAbs).length c4) d20 d21)
    clear d20 d21 f20 f21
    go_wp2_with fail
    obtain ⟨r0, r1⟩ := R.out
    refine bodyPost_ret (v := .agg #[.bool (decide (z < 0)), .slice A4 (Kn.dig z.natAbs).length c4]) (by simp [results, Tryd.results18, go_sem, r0, r1]) rfl ?_
    exact i.fin hS4
end Go.Proofs.YtmhfdmidaheoeaaDoor
