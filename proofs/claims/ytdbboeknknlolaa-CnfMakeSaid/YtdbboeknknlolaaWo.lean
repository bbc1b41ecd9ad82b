/- Walks: isLiteral, isWithin, isCanonical. -/
import Derived.Test.YtdbboeknknlolaaWn
namespace Go.Proofs.Ytdbboeknknlolaa
open Go.RowKit Go.Sort
set_option linter.unusedVariables false

/-- is it a literal of a variable from 1 to v? -/
def isLit (v x : Int) : Bool := decide (x ≠ 0) && decide ((x.natAbs : Int) ≤ v)
def wiL (v : Int) (L : List (List Int)) : Bool := L.all fun z => z.all (isLit v)
theorem islit_any (x v : Int) (hv : 0 ≤ v ∧ v ≤ 20000) (rx : inI x) (w : World) : Calls Try.prog 45 #[.int .i64 x, .int .i64 v] w fun e w' => e = .returned (.bool (isLit v x)) ∧ w = w' := by
  have e1 : IntKind.i64.wrap (-v) = -v := IntWalk.i64_in _ (by omega)
  by_cases h0 : x = 0
  · have he : Hid (isLit v x = false) := Lib.hid (by unfold isLit; rw [decide_eq_false (by omega)]; rfl)
    have q0 : (x != 0) = false := by rw [h0]; rfl
    clear h0
    go_enter Try.func45, Try.ntmps45
    go_wp2_with fail
    go_ret
    exact ⟨ret_bool he.out.symm, rfl⟩
  · have q0 : (x != 0) = true := bne_iff_ne.2 h0
    by_cases h1 : -v ≤ x
    · by_cases h2 : x ≤ v
      · have he : Hid (isLit v x = true) := Lib.hid (by unfold isLit; rw [decide_eq_true h0, decide_eq_true (by omega)]; rfl)
        clear h0
        go_enter Try.func45, Try.ntmps45
        go_wp2_with fail
        go_ret
        exact ⟨ret_bool he.out.symm, rfl⟩
      · have he : Hid (isLit v x = false) := Lib.hid (by unfold isLit; rw [decide_eq_true h0, decide_eq_false (by omega)]; rfl)
        clear h0
        go_enter Try.func45, Try.ntmps45
        go_wp2_with fail
        go_ret
        exact ⟨ret_bool he.out.symm, rfl⟩
    · have he : Hid (isLit v x = false) := Lib.hid (by unfold isLit; rw [decide_eq_true h0, decide_eq_false (by omega)]; rfl)
      clear h0
      go_enter Try.func45, Try.ntmps45
      go_wp2_with fail
      go_ret
      exact ⟨ret_bool he.out.symm, rfl⟩
set_option maxRecDepth 100000 in
set_option maxHeartbeats 1000000 in
theorem within_any (cs : List Cl) (A : Option Addr) (ca : Nat) (w : World) (hx : LL w w.heap.size A cs) (hlx : cs.length ≤ 1000000) (hcx : ∀ c ∈ cs, c.zs.length ≤ 1000000) (v : Int) (hv : 0 ≤ v ∧ v ≤ 20000) :
    Calls Try.prog 28 #[.slice A cs.length ca, .int .i64 v] w fun e w' => e = .returned (.bool (wiL v (ct cs))) ∧ w = w' := by
  have HX := Lib.hid hx
  have HCX := Lib.hid hcx
  obtain ⟨n, hn⟩ : ∃ n, Hid (cs.length = n) := ⟨_, Lib.hid rfl⟩
  obtain ⟨e, he⟩ : ∃ e, Hid (wiL v (ct cs) = e) := ⟨_, Lib.hid rfl⟩
  have H0 : Hid (e = wiL v ((ct cs).drop 0)) := Lib.hid (by rw [← he.out]; rfl)
  rw [hn.out] at hlx ⊢
  rw [he.out]
  clear hx he hcx
  go_enter Try.func28, Try.ntmps28
  go_wp2_with fail
  go_loop [6, 8, 11] (fun v6 v8 iv => ∃ i : Nat, i ≤ n ∧ iv = .int .i64 i ∧ Hid (e = wiL v ((ct cs).drop i))) (fun _ _ iv => n - (intOf iv).toNat)
  case atStart => exact ⟨0, Nat.zero_le _, rfl, H0⟩
  case round =>
    clear H0
    obtain ⟨i, hi, rfl, H1⟩ := hrel
    by_cases hlt : i < n
    · obtain ⟨b, off, c, rfl, hb, c0, hci, zc⟩ := HX.out.at_ (show i < cs.length by rw [hn.out]; exact hlt)
      have hcl := HCX.out c (List.mem_of_getElem? hci)
      obtain ⟨d, hd⟩ : ∃ d, Hid (c.zs.length = d) := ⟨_, Lib.hid rfl⟩
      rw [hd.out] at c0 hcl
      have HZ := Lib.hid zc
      have H2 : Hid (e = ((c.zs.drop 0).all (isLit v) && wiL v ((ct cs).drop (i + 1)))) := Lib.hid (by
        rw [H1.out, drop_cons_ (l := ct cs) (i := i) (x := c.zs) (by rw [List.getElem?_map, hci]; rfl)]; rfl)
      clear H1 hci zc
      go_wp2_with fail
      clear c0
      go_loop [8, 17] (fun v8 jv => ∃ j : Nat, j ≤ d ∧ jv = .int .i64 j ∧ Hid (e = ((c.zs.drop j).all (isLit v) && wiL v ((ct cs).drop (i + 1))))) (fun _ jv => d - (intOf jv).toNat)
      case atStart => exact ⟨0, Nat.zero_le _, rfl, H2⟩
      case round =>
        clear H2
        obtain ⟨j, hj, rfl, H3⟩ := hrel
        by_cases hjm : j < d
        · obtain ⟨b2, off2, x, hax, hb2, c1, hxi, rx⟩ := HZ.out.at_ (show j < c.zs.length by rw [hd.out]; exact hjm)
          rw [hax]
          have H4 : Hid (e = (isLit v x && ((c.zs.drop (j + 1)).all (isLit v) && wiL v ((ct cs).drop (i + 1))))) := Lib.hid (by
            rw [H3.out, drop_cons_ hxi, List.all_cons, Bool.and_assoc])
          have HM := Lib.hid (fun W => islit_any x v hv rx W)
          clear H3 hxi rx hax
          obtain ⟨u, hu⟩ : ∃ u, Hid (isLit v x = u) := ⟨_, Lib.hid rfl⟩
          rw [hu.out] at HM
          cases u with
          | true =>
            have H5 : Hid (e = ((c.zs.drop (j + 1)).all (isLit v) && wiL v ((ct cs).drop (i + 1)))) := Lib.hid (by rw [H4.out, hu.out]; rfl)
            clear H4 hu
            go_wp2_with fail
            refine (HM.out _).mono ?_
            rintro r w2 ⟨rfl, rfl⟩
            clear HM
            go_wp2_with fail
            go_round
            case rel => exact ⟨j + 1, by omega, by go_num, H5⟩
            case measure => simp [intOf]; omega
          | false =>
            have he0 : e = false := by rw [H4.out, hu.out]; rfl
            subst he0
            clear H4 hu
            go_wp2_with fail
            refine (HM.out _).mono ?_
            rintro r w2 ⟨rfl, rfl⟩
            clear HM
            go_wp2_with fail
            go_ret
            exact ⟨rfl, rfl⟩
        · obtain rfl : j = d := by omega
          have H5 : Hid (e = wiL v ((ct cs).drop (i + 1))) := Lib.hid (by rw [H3.out, List.drop_of_length_le (by rw [hd.out]; exact Nat.le_refl _)]; rfl)
          clear H3 HZ
          go_wp2_with fail
          go_round
          case rel => exact ⟨i + 1, by omega, by go_num, H5⟩
          case measure => simp [intOf]; omega
    · obtain rfl : i = n := by omega
      have he1 : e = true := by
        rw [H1.out, List.drop_of_length_le (by rw [List.length_map, hn.out]; exact Nat.le_refl _)]; rfl
      subst he1
      clear H1 HX
      go_wp2_with fail
      go_ret
      exact ⟨rfl, rfl⟩
set_option maxRecDepth 100000 in
set_option maxHeartbeats 2000000 in
theorem iscan_any (cs : List Cl) (A : Option Addr) (ca : Nat) (w : World) (hx : LL w w.heap.size A cs) (hlx : cs.length ≤ 1000000) (hcx : ∀ c ∈ cs, c.zs.length ≤ 1000000) :
    Calls Try.prog 29 #[.slice A cs.length ca] w fun e w' => e = .returned (.bool (isCan (ct cs))) ∧ Gro w w' := by
  have X := Gro.refl w
  have HX := Lib.hid (fun W (h : Gro w W) => hx.at h.bel)
  have HCX := Lib.hid hcx
  have HA := Lib.hid (fun W (h : Gro w W) => ascC_any cs A ca W (hx.at h.bel) hlx hcx)
  obtain ⟨R, hR⟩ : ∃ R, Hid (asc clC (ct cs) = R) := ⟨_, Lib.hid rfl⟩
  obtain ⟨n, hn⟩ : ∃ n, Hid (cs.length = n) := ⟨_, Lib.hid rfl⟩
  obtain ⟨e, he⟩ : ∃ e, Hid (isCan (ct cs) = e) := ⟨_, Lib.hid rfl⟩
  have H0 : Hid (e = (((ct cs).drop 0).all (fun z => asc litC z && !taut z) && R)) := Lib.hid (by rw [← he.out, ← hR.out]; rfl)
  rw [hR.out] at HA
  rw [hn.out] at hlx HA ⊢
  rw [he.out]
  clear hx he hcx hR
  go_enter Try.func29, Try.ntmps29
  go_wp2_with fail
  go_loopw [4, 7] (fun v4 iv wr => ∃ i : Nat, i ≤ n ∧ iv = .int .i64 i ∧ Hid (e = (((ct cs).drop i).all (fun z => asc litC z && !taut z) && R)) ∧ Gro w wr) (fun _ iv _ => n - (intOf iv).toNat)
  case atStart => exact ⟨0, Nat.zero_le _, rfl, H0, X⟩
  case round =>
    clear X H0
    obtain ⟨i, hi, rfl, H1, Y⟩ := hrel
    by_cases hlt : i < n
    · obtain ⟨b, off, c, rfl, hb, c0, hci, zc⟩ := (HX.out _ Y).at_ (show i < cs.length by rw [hn.out]; exact hlt)
      have hcl := HCX.out c (List.mem_of_getElem? hci)
      have H2 : Hid (e = ((asc litC c.zs && !taut c.zs) && (((ct cs).drop (i + 1)).all (fun z => asc litC z && !taut z) && R))) := Lib.hid (by
        rw [H1.out, drop_cons_ (l := ct cs) (i := i) (x := c.zs) (by rw [List.getElem?_map, hci]; rfl), List.all_cons, Bool.and_assoc])
      have HI := Lib.hid (ascI_any c.zs c.ad c.cap wr zc hcl)
      have HT := Lib.hid (fun W (h : Gro wr W) => taut_any c.zs c.ad c.cap W (zc.at h.bel) hcl)
      obtain ⟨u, hu⟩ : ∃ u, Hid (asc litC c.zs = u) := ⟨_, Lib.hid rfl⟩
      obtain ⟨t, ht⟩ : ∃ t, Hid (taut c.zs = t) := ⟨_, Lib.hid rfl⟩
      rw [hu.out] at HI H2
      rw [ht.out] at HT H2
      clear H1 hci zc hu ht
      go_wp2_with fail
      refine HI.out.mono ?_
      rintro r w2 ⟨rfl, g2⟩
      have HT2 := Lib.hid (HT.out _ g2)
      have Y2 := Y.trans g2
      clear HI HT c0 Y g2
      cases u with
      | false =>
        have he0 : e = false := by rw [H2.out]; rfl
        subst he0
        clear HT2
        go_wp2_with fail
        go_ret
        exact ⟨rfl, Y2⟩
      | true =>
        go_wp2_with fail
        refine HT2.out.mono ?_
        rintro r w3 ⟨rfl, g3⟩
        have Y3 := Y2.trans g3.gro
        clear HT2 Y2 g3
        cases t with
        | true =>
          have he0 : e = false := by rw [H2.out]; rfl
          subst he0
          clear H2
          go_wp2_with fail
          go_ret
          exact ⟨rfl, Y3⟩
        | false =>
          have H5 : Hid (e = (((ct cs).drop (i + 1)).all (fun z => asc litC z && !taut z) && R)) := Lib.hid (by rw [H2.out]; rfl)
          clear H2
          go_wp2_with fail
          go_roundw
          case rel => exact ⟨i + 1, by omega, by go_num, H5, Y3⟩
          case measure => simp [intOf]; omega
    · obtain rfl : i = n := by omega
      have he1 : e = R := by
        rw [H1.out, List.drop_of_length_le (by rw [List.length_map, hn.out]; exact Nat.le_refl _)]; rfl
      subst he1
      have HA2 := Lib.hid (HA.out _ Y)
      clear H1 HX HA
      go_wp2_with fail
      refine HA2.out.mono ?_
      rintro r w2 ⟨rfl, g2⟩
      have Y2 := Y.trans g2
      clear HA2
      go_wp2_with fail
      go_ret
      exact ⟨rfl, Y2⟩
end Go.Proofs.Ytdbboeknknlolaa
