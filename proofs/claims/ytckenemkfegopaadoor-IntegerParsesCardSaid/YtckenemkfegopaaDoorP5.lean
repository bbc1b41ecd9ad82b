/- Walks: the reference's Parse (written by gen/mkirparse.py). -/
import Derived.Test.YtckenemkfegopaaDoorP4
namespace Go.Proofs.YtckenemkfegopaaDoor
open Go.RowKit
set_option linter.unusedVariables false
/-- a magnitude with a sign -/
def sgnZ (N : Bool) (v : Nat) : Int := if N then -(v : Int) else (v : Int)
set_option maxRecDepth 100000 in
set_option maxHeartbeats 8000000 in
theorem rparse_any (s : ByteArray) (hs : s.size ≤ 1000000) (w : World) :
    Calls Tryd.prog 47 #[.string s] w (PRes (Kt.pZ (bs s)) w) := by
  obtain ⟨p, hp⟩ : ∃ p, Hid (p = Kt.pZ (bs s)) := ⟨_, Lib.hid rfl⟩
  rw [← hp.out]
  have hlen := bs_length s
  have i1 := B1.new_ w 24
  by_cases h1 : 601 < s.size
  · have h1I : (601 : Int) < (s.size : Int) := by omega
    have HP : Hid (p = (5, 0)) := Lib.hid (by rw [hp.out]; unfold Kt.pZ; rw [if_pos (by omega)])
    go_enter Tryd.func47, Tryd.ntmps47
    go_wp2_with fail
    refine bodyPost_ret (v := .tuple #[.agg #[.bool false, .slice none 0 0], .int .i64 5]) (by simp [results, Tryd.results47, go_sem]) rfl ?_
    exact PRes.err HP.out i1.bel
  have h1I : ¬ (601 : Int) < (s.size : Int) := by omega
  have HS0 : p = restZ (Kt.negB (bs s)) (Kt.body (bs s)) := by rw [hp.out]; exact rz_of (by omega)
  by_cases hneg : Kt.negB (bs s) = true
  · have hp1 : 0 < s.size := by
      by_cases h : s.size = 0
      · rw [List.eq_nil_of_length_eq_zero (l := bs s) (by omega)] at hneg; cases hneg
      · omega
    have hd0 := drop_at hp1
    rw [List.drop_zero] at hd0
    have h45 : s[0].toNat = 45 := by
      have h := hneg
      unfold Kt.negB at h
      rw [hd0] at h
      have : s[0] = 45 := by simpa using h
      rw [this]; rfl
    have qs : (((s[0].toNat : Nat) : Int) == 45) = true := by rw [h45]; rfl
    have hpI : (0 : Int) < (s.size : Int) := by omega
    obtain ⟨d, hd⟩ : ∃ d, d = s.extract 1 s.size := ⟨_, rfl⟩
    have hbd : bs d = (bs s).drop 1 := by
      rw [hd]
      unfold bs
      rw [ByteArray.data_extract, Array.toList_extract, List.extract_eq_take_drop]
      rw [List.take_of_length_le]
      have := bs_length s
      unfold bs at this
      rw [List.length_drop]; omega
    have HS : Hid (p = restZ true (bs d)) := Lib.hid (by
      rw [HS0, hneg, hbd]
      unfold Kt.body
      rw [hneg]; rfl)
    have hdsz : d.size ≤ 601 := by rw [← bs_length, hbd, List.length_drop]; omega
    clear HS0 hneg hd0 h45 hbd hp h1
    go_enter Tryd.func47, Tryd.ntmps47
    go_upto_region 6 with (fail)
    rw [← hd]
    clear hd hpI h1I hlen
    have hdl := bs_length d
    by_cases h0 : d.size = 0
    · have q0 : ((d.size : Int) == 0) = true := by rw [h0]; rfl
      have HP : Hid (p = (6, 0)) := Lib.hid (by rw [HS.out, List.eq_nil_of_length_eq_zero (l := bs d) (by omega)]; exact rz_nil _)
      go_wp2_with fail
      refine bodyPost_ret (v := .tuple #[.agg #[.bool false, .slice none 0 0], .int .i64 6]) (by simp [results, Tryd.results47, go_sem]) rfl ?_
      exact PRes.err HP.out i1.bel
    have q0 : ((d.size : Int) == 0) = false := by rw [beq_eq_false_iff_ne]; omega
    have hp0 : 0 < d.size := by omega
    have hd0 := drop_at hp0
    rw [List.drop_zero] at hd0
    by_cases hbad : d[0].toNat = 48 ∧ (true = true ∨ 1 < d.size)
    · have q1 : (((d[0].toNat : Nat) : Int) == 48) = true := by rw [hbad.1]; rfl
      have HP : Hid (p = (6, 0)) := Lib.hid (by
        have e : d[0] = 48 := UInt8.toNat_inj.1 hbad.1
        rw [HS.out, hd0, e]
        refine rz_zero (hbad.2.imp id fun h => ?_)
        intro e2
        have := congrArg List.length e2
        rw [List.length_drop, hdl] at this
        simp at this; omega)
      have q2 : (true = true) ∨ (1 : Int) < (d.size : Int) := hbad.2.imp id fun h => by omega
      clear hbad hd0
      go_wp2_with fail
      refine bodyPost_ret (v := .tuple #[.agg #[.bool false, .slice none 0 0], .int .i64 6]) (by simp [results, Tryd.results47, go_sem]) rfl ?_
      exact PRes.err HP.out i1.bel
    have HOK : Hid ((bs d).all Kt.digC = true → p = if 600 < d.size then (5, 0) else (0, sgnZ true (Kt.valN (bs d)))) := Lib.hid (by
      intro h
      unfold sgnZ
      rw [HS.out, ← hdl]
      rw [hd0] at h ⊢
      refine rz_ok h ?_
      by_cases e : d[0] = 48
      · right
        have h48 : d[0].toNat = 48 := by rw [e]; rfl
        refine ⟨?_, ?_⟩
        · cases hN : true
          · rfl
          · exact absurd ⟨h48, .inl hN⟩ hbad
        · refine List.eq_nil_of_length_eq_zero ?_
          rw [List.length_drop, hdl]
          have : ¬ 1 < d.size := fun h => hbad ⟨h48, .inr h⟩
          omega
      · exact .inl e)
    have key : (((d[0].toNat : Nat) : Int) == 48) = false ∨ ((((d[0].toNat : Nat) : Int) == 48) = true ∧ true = false ∧ ¬ (1 : Int) < (d.size : Int)) := by
      by_cases e : d[0].toNat = 48
      · right
        refine ⟨by rw [e]; rfl, ?_, fun h => hbad ⟨e, .inr (by omega)⟩⟩
        cases hN : true
        · rfl
        · exact absurd ⟨e, .inl hN⟩ hbad
      · left
        rw [beq_eq_false_iff_ne]; omega
    clear hbad hd0
    replace key := key.resolve_right (fun h => by cases h.2.1)
    go_wp2_with fail
    have M0 : Rp w ((w.alloc (.cells #[.bool false, .slice none 0 0] 24)).alloc (.cells #[] 53)) (some ⟨w.heap.size + 1, 0, none⟩) 0 [] :=
      ⟨i1.below (al1 _ _), ⟨Nums.nil _ _ _ _, Kn.Wd.nil, Nat.zero_le _, fun e => by cases e⟩⟩
    go_loopw [5, 6] (fun ov iv wr => ∃ (i V : Nat) (C : Option Addr) (cc : Nat), i ≤ d.size ∧ iv = .int .i64 (i : Int) ∧ ov = .slice C (Kn.dig V).length cc ∧ (Kn.dig V).length ≤ i ∧ Rp w wr C cc (Kn.dig V) ∧ Hid (V = Kt.valN ((bs d).take i) ∧ ((bs d).take i).all Kt.digC = true)) (fun _ iv _ => d.size - (intOf iv).toNat)
    case atStart => exact ⟨0, 0, some ⟨w.heap.size + 1, 0, none⟩, 0, Nat.zero_le _, rfl, by rw [Kn.dig_zero]; first | rfl | simp, by rw [Kn.dig_zero]; simp, by rw [Kn.dig_zero]; exact M0, Lib.hid ⟨rfl, rfl⟩⟩
    case round =>
      clear M0 i1
      obtain ⟨i, V, C, cc, hi, rfl, rfl, hVl, M, HV⟩ := hrel
      by_cases hlt : i < d.size
      · have hltI : (i : Int) < (d.size : Int) := by omega
        have hdr := drop_at hlt
        by_cases hdc : Kt.digC d[i] = true
        · obtain ⟨dg, hdg, hd9⟩ : ∃ dg, d[i].toNat = dg + 48 ∧ dg ≤ 9 := by
            unfold Kt.digC at hdc
            simp at hdc
            exact ⟨d[i].toNat - 48, by omega, by omega⟩
          have hix := index_run (s := d) (i := i) (x := (dg : Int) + 48) hlt (by omega)
          obtain ⟨V2, hV2⟩ : ∃ V2, Hid (V2 = V * 10 + dg) := ⟨_, Lib.hid rfl⟩
          have HV2 : Hid (V2 = Kt.valN ((bs d).take (i + 1)) ∧ ((bs d).take (i + 1)).all Kt.digC = true) := Lib.hid (by
            obtain ⟨a1, a2⟩ := HV.out
            refine ⟨by rw [hV2.out, Kt.val_take hdr, ← a1]; omega, ?_⟩
            have hi2 : i < (bs d).length := by omega
            have h2 := List.drop_eq_getElem_cons hi2
            rw [hdr] at h2
            injection h2 with h2 _
            rw [List.take_succ_eq_append_getElem hi2, List.all_append, a2, ← h2]
            simp [hdc])
          have hT1 : (Kn.dig (V * 10)).length ≤ i + 1 := by
            refine Nat.le_trans (Kn.dig_len_le (k := (Kn.dig V).length + 1) ?_) (by omega)
            have := Kn.dig_lt (n := V)
            rw [Kn.pw_succ]; omega
          have hT2 : (Kn.dig V2).length ≤ i + 1 := by
            refine Nat.le_trans (Kn.dig_len_le (k := (Kn.dig V).length + 1) ?_) (by omega)
            have := Kn.dig_lt (n := V)
            rw [Kn.pw_succ, hV2.out]; omega
          have HTM := Lib.hid (fun (W : World) (h : Sl W W.heap.size C cc (Kn.dig V)) => (by have := rtimesWord_any C cc (Kn.dig V) 10 W h (by omega) (by omega); rwa [Kn.val_dig] at this : Calls Tryd.prog 87 #[.slice C (Kn.dig V).length cc, .int .u64 10] W (MagRes (V * 10) W)))
          have HAD := Lib.hid (fun (W : World) (E : Option Addr) (ce g : Nat) (h1 : Sl W W.heap.size E ce (Kn.dig (V * 10))) (h2 : W.cell? ⟨g, 0, none⟩ = some (.int .u32 (dg : Int))) => (by have := raddWords_any E ce (Kn.dig (V * 10)) (some ⟨g, 0, none⟩) 1 [dg] W h1 (sl_one h2 (by omega)) (by omega) (by simp); rw [Kn.val_one, Kn.val_dig, ← hV2.out] at this; exact this : Calls Tryd.prog 65 #[.slice E (Kn.dig (V * 10)).length ce, .slice (some ⟨g, 0, none⟩) 1 1] W (MagRes V2 W)))
          have ew8 : IntKind.u8.wrap (dg : Int) = (dg : Int) := (by decide : ∀ k : Fin 10, IntKind.u8.wrap (k.1 : Int) = (k.1 : Int)) ⟨dg, by omega⟩
          have ew32 : IntKind.u32.wrap (dg : Int) = (dg : Int) := (by decide : ∀ k : Fin 10, IntKind.u32.wrap (k.1 : Int) = (k.1 : Int)) ⟨dg, by omega⟩
          clear hdr hdc hdg HV hT1
          go_wp2_with fail
          have n0 : (wr.alloc (.cells #[.int .u32 (dg : Int)] 53)).drew.cell? ⟨wr.heap.size, 0, none⟩ = some (.int .u32 (dg : Int)) := newx wr _
          go_region_held3 (fun _ => True)
            (exact trivial)
            (first
              | (go_at_call 87; (with_reducible refine (HTM.out _ M.drew.o).mono ?_); rintro e w' ⟨At, ct, rfl, hTS, hb⟩; replace M := M.drew.below hb; clear hb)
              | (go_at_call 87; (with_reducible refine (HTM.out _ (M.alloc _).drew.o).mono ?_); rintro e w' ⟨At, ct, rfl, hTS, hb⟩; have kz := (hb.cell (p := ⟨wr.heap.size, 0, none⟩) (by simp)).trans n0; replace M := (M.alloc _).drew.below hb; clear hb)
              | (go_at_call 65; (with_reducible refine (HAD.out _ _ _ _ hTS kz).mono ?_); rintro e w9 ⟨A9, c9, rfl, hR, hb9⟩; replace M := M.below hb9; clear hb9)
              | (go_at_call 65; (with_reducible refine (HAD.out _ _ _ _ (hTS.nx (al1 _ _)) (newx _ _)).mono ?_); rintro e w9 ⟨A9, c9, rfl, hR, hb9⟩; replace M := (M.alloc _).below hb9; clear hb9))
          all_goals
            have M9 : Rp w w9 A9 c9 (Kn.dig V2) := ⟨M.b, hR⟩
            go_wp2_with fail
            go_roundw
            case rel => exact ⟨i + 1, V2, A9, c9, by omega, by go_num, rfl, hT2, M9, HV2⟩
            case measure => simp [intOf]; omega
        · have HP : Hid (p = (6, 0)) := Lib.hid (by
            rw [HS.out]
            refine rz_bad ?_
            rw [← List.take_append_drop i (bs d), List.all_append, hdr, List.all_cons]
            rw [Bool.not_eq_true] at hdc
            rw [hdc]; simp)
          have J := M.b
          have d0 := J.t1.c0
          have d1 := J.t1.c1
          have f0 := J.t1.fr 0
          have f1 := J.t1.fr 1
          have hzl := J.t1.lt
          have hcase : d[i].toNat < 48 ∨ (¬ d[i].toNat < 48 ∧ 57 < d[i].toNat) := by
            unfold Kt.digC at hdc
            simp at hdc
            omega
          clear hdc hdr HV
          rcases hcase with hcase | ⟨hcase, hcase2⟩
          · have z1 : ((d[i].toNat : Nat) : Int) < 48 := by omega
            go_wp2_with fail
            have tp := J.t1.put (.bool false) (.slice none 0 0)
            have r0 := tp.c0
            have r1 := tp.c1
            refine bodyPost_ret (v := .tuple #[.agg #[.bool false, .slice none 0 0], .int .i64 6]) (by simp [results, Tryd.results47, go_sem, r0, r1]) rfl ?_
            exact PRes.err HP.out ((J.bel.setCell (p := ⟨w.heap.size, 0, none⟩) (Nat.le_refl _) _).setCell (p := ⟨w.heap.size, 1, none⟩) (Nat.le_refl _) _)
          · have z1 : ¬ ((d[i].toNat : Nat) : Int) < 48 := by omega
            have z2 : 57 < ((d[i].toNat : Nat) : Int) := by omega
            go_wp2_with fail
            have tp := J.t1.put (.bool false) (.slice none 0 0)
            have r0 := tp.c0
            have r1 := tp.c1
            refine bodyPost_ret (v := .tuple #[.agg #[.bool false, .slice none 0 0], .int .i64 6]) (by simp [results, Tryd.results47, go_sem, r0, r1]) rfl ?_
            exact PRes.err HP.out ((J.bel.setCell (p := ⟨w.heap.size, 0, none⟩) (Nat.le_refl _) _).setCell (p := ⟨w.heap.size, 1, none⟩) (Nat.le_refl _) _)
      · have hltI : ¬ (i : Int) < (d.size : Int) := by omega
        obtain ⟨a1, a2⟩ := HV.out
        rw [List.take_of_length_le (by omega)] at a1 a2
        have hpp := HOK.out a2
        have J := M.b
        by_cases h6 : 600 < d.size
        · first
            | (exfalso; omega)
            | (have h6I : (600 : Int) < (d.size : Int) := by omega
               have HP : Hid (p = (5, 0)) := Lib.hid (by rw [hpp, if_pos h6])
               have d0 := J.t1.c0
               have d1 := J.t1.c1
               have f0 := J.t1.fr 0
               have f1 := J.t1.fr 1
               have hzl := J.t1.lt
               clear a1 a2 hpp HV
               go_wp2_with fail
               have tp := J.t1.put (.bool false) (.slice none 0 0)
               have r0 := tp.c0
               have r1 := tp.c1
               refine bodyPost_ret (v := .tuple #[.agg #[.bool false, .slice none 0 0], .int .i64 5]) (by simp [results, Tryd.results47, go_sem, r0, r1]) rfl ?_
               exact PRes.err HP.out ((J.bel.setCell (p := ⟨w.heap.size, 0, none⟩) (Nat.le_refl _) _).setCell (p := ⟨w.heap.size, 1, none⟩) (Nat.le_refl _) _))
        · have h6I : ¬ (600 : Int) < (d.size : Int) := by omega
          obtain ⟨z, HPz, hsg⟩ : ∃ z : Int, Hid (p = (0, z)) ∧ Hid (Calls Tryd.prog 59 #[.bool true, .slice C (Kn.dig V).length cc] wr (IntRes z wr)) :=
            ⟨Kn.iv true (Kn.dig V), Lib.hid (by rw [hpp, if_neg h6, ← a1]; unfold Kn.iv sgnZ; rw [Kn.val_dig]), Lib.hid (made_any true C cc (Kn.dig V) wr M.o (by omega))⟩
          clear a1 a2 hpp HV HOK
          go_wp2_with fail
          refine hsg.out.mono ?_
          rintro e w6 ⟨A6, c6, rfl, hS, hb6⟩
          have J6 := J.below hb6
          have d0 := J6.t1.c0
          have d1 := J6.t1.c1
          have f0 := J6.t1.fr 0
          have f1 := J6.t1.fr 1
          have hzl := J6.t1.lt
          clear J M hb6 hsg
          go_wp2_with fail
          have tp := J6.t1.put (.bool (decide (z < 0))) (.slice A6 (Kn.dig z.natAbs).length c6)
          have r0 := tp.c0
          have r1 := tp.c1
          refine bodyPost_ret (v := .tuple #[.agg #[.bool (decide (z < 0)), .slice A6 (Kn.dig z.natAbs).length c6], .int .i64 0]) (by simp [results, Tryd.results47, go_sem, r0, r1]) rfl ?_
          rw [HPz.out]
          exact ⟨A6, c6, rfl, (hS.put J6.t1 _ _).more (by simp [World.setCell]), (J6.bel.setCell (p := ⟨w.heap.size, 0, none⟩) (Nat.le_refl _) _).setCell (p := ⟨w.heap.size, 1, none⟩) (Nat.le_refl _) _⟩
  · rw [Bool.not_eq_true] at hneg
    have HS : Hid (p = restZ false (bs s)) := Lib.hid (by
      rw [HS0, hneg]
      unfold Kt.body
      rw [hneg]; rfl)
    have qcase : (¬ (0 : Int) < (s.size : Int)) ∨ (∃ h : 0 < s.size, (0 : Int) < (s.size : Int) ∧ (((s[0].toNat : Nat) : Int) == 45) = false) := by
      by_cases h : 0 < s.size
      · refine .inr ⟨h, by omega, ?_⟩
        have hd0 := drop_at h
        rw [List.drop_zero] at hd0
        unfold Kt.negB at hneg
        rw [hd0] at hneg
        rw [beq_eq_false_iff_ne]
        intro e
        have e2 : s[0] = 45 := UInt8.toNat_inj.1 (by show s[0].toNat = 45; omega)
        rw [e2] at hneg
        cases hneg
      · exact .inl (by omega)
    have hdsz : s.size ≤ 601 := by omega
    obtain ⟨d, hd⟩ : ∃ d, d = s := ⟨_, rfl⟩
    subst hd
    clear HS0 hneg hp h1
    rcases qcase with qs | ⟨hp1, hpI, qs⟩
    · have h0 : d.size = 0 := by omega
      have q0 : ((d.size : Int) == 0) = true := by rw [h0]; rfl
      have HP : Hid (p = (6, 0)) := Lib.hid (by rw [HS.out, List.eq_nil_of_length_eq_zero (l := bs d) (by omega)]; exact rz_nil _)
      go_enter Tryd.func47, Tryd.ntmps47
      go_wp2_with fail
      refine bodyPost_ret (v := .tuple #[.agg #[.bool false, .slice none 0 0], .int .i64 6]) (by simp [results, Tryd.results47, go_sem]) rfl ?_
      exact PRes.err HP.out i1.bel
    · go_enter Tryd.func47, Tryd.ntmps47
      go_upto_region 6 with (fail)
      clear hpI h1I hlen
      have hdl := bs_length d
      by_cases h0 : d.size = 0
      · exact absurd h0 (by omega)
      have q0 : ((d.size : Int) == 0) = false := by rw [beq_eq_false_iff_ne]; omega
      have hp0 : 0 < d.size := by omega
      have hd0 := drop_at hp0
      rw [List.drop_zero] at hd0
      by_cases hbad : d[0].toNat = 48 ∧ (false = true ∨ 1 < d.size)
      · have q1 : (((d[0].toNat : Nat) : Int) == 48) = true := by rw [hbad.1]; rfl
        have HP : Hid (p = (6, 0)) := Lib.hid (by
          have e : d[0] = 48 := UInt8.toNat_inj.1 hbad.1
          rw [HS.out, hd0, e]
          refine rz_zero (hbad.2.imp id fun h => ?_)
          intro e2
          have := congrArg List.length e2
          rw [List.length_drop, hdl] at this
          simp at this; omega)
        have q2 : (false = true) ∨ (1 : Int) < (d.size : Int) := hbad.2.imp id fun h => by omega
        clear hbad hd0
        have q3 : (1 : Int) < (d.size : Int) := q2.resolve_left (fun h => by cases h)
        go_wp2_with fail
        refine bodyPost_ret (v := .tuple #[.agg #[.bool false, .slice none 0 0], .int .i64 6]) (by simp [results, Tryd.results47, go_sem]) rfl ?_
        exact PRes.err HP.out i1.bel
      have HOK : Hid ((bs d).all Kt.digC = true → p = if 600 < d.size then (5, 0) else (0, sgnZ false (Kt.valN (bs d)))) := Lib.hid (by
        intro h
        unfold sgnZ
        rw [HS.out, ← hdl]
        rw [hd0] at h ⊢
        refine rz_ok h ?_
        by_cases e : d[0] = 48
        · right
          have h48 : d[0].toNat = 48 := by rw [e]; rfl
          refine ⟨?_, ?_⟩
          · cases hN : false
            · rfl
            · exact absurd ⟨h48, .inl hN⟩ hbad
          · refine List.eq_nil_of_length_eq_zero ?_
            rw [List.length_drop, hdl]
            have : ¬ 1 < d.size := fun h => hbad ⟨h48, .inr h⟩
            omega
        · exact .inl e)
      have key : (((d[0].toNat : Nat) : Int) == 48) = false ∨ ((((d[0].toNat : Nat) : Int) == 48) = true ∧ false = false ∧ ¬ (1 : Int) < (d.size : Int)) := by
        by_cases e : d[0].toNat = 48
        · right
          refine ⟨by rw [e]; rfl, ?_, fun h => hbad ⟨e, .inr (by omega)⟩⟩
          cases hN : false
          · rfl
          · exact absurd ⟨e, .inl hN⟩ hbad
        · left
          rw [beq_eq_false_iff_ne]; omega
      clear hbad hd0
      rcases key with key | ⟨key, _, key2⟩
      all_goals
        go_wp2_with fail
        have M0 : Rp w ((w.alloc (.cells #[.bool false, .slice none 0 0] 24)).alloc (.cells #[] 53)) (some ⟨w.heap.size + 1, 0, none⟩) 0 [] :=
          ⟨i1.below (al1 _ _), ⟨Nums.nil _ _ _ _, Kn.Wd.nil, Nat.zero_le _, fun e => by cases e⟩⟩
        go_loopw [5, 6] (fun ov iv wr => ∃ (i V : Nat) (C : Option Addr) (cc : Nat), i ≤ d.size ∧ iv = .int .i64 (i : Int) ∧ ov = .slice C (Kn.dig V).length cc ∧ (Kn.dig V).length ≤ i ∧ Rp w wr C cc (Kn.dig V) ∧ Hid (V = Kt.valN ((bs d).take i) ∧ ((bs d).take i).all Kt.digC = true)) (fun _ iv _ => d.size - (intOf iv).toNat)
        case atStart => exact ⟨0, 0, some ⟨w.heap.size + 1, 0, none⟩, 0, Nat.zero_le _, rfl, by rw [Kn.dig_zero]; first | rfl | simp, by rw [Kn.dig_zero]; simp, by rw [Kn.dig_zero]; exact M0, Lib.hid ⟨rfl, rfl⟩⟩
        case round =>
          clear M0 i1
          obtain ⟨i, V, C, cc, hi, rfl, rfl, hVl, M, HV⟩ := hrel
          by_cases hlt : i < d.size
          · have hltI : (i : Int) < (d.size : Int) := by omega
            have hdr := drop_at hlt
            by_cases hdc : Kt.digC d[i] = true
            · obtain ⟨dg, hdg, hd9⟩ : ∃ dg, d[i].toNat = dg + 48 ∧ dg ≤ 9 := by
                unfold Kt.digC at hdc
                simp at hdc
                exact ⟨d[i].toNat - 48, by omega, by omega⟩
              have hix := index_run (s := d) (i := i) (x := (dg : Int) + 48) hlt (by omega)
              obtain ⟨V2, hV2⟩ : ∃ V2, Hid (V2 = V * 10 + dg) := ⟨_, Lib.hid rfl⟩
              have HV2 : Hid (V2 = Kt.valN ((bs d).take (i + 1)) ∧ ((bs d).take (i + 1)).all Kt.digC = true) := Lib.hid (by
                obtain ⟨a1, a2⟩ := HV.out
                refine ⟨by rw [hV2.out, Kt.val_take hdr, ← a1]; omega, ?_⟩
                have hi2 : i < (bs d).length := by omega
                have h2 := List.drop_eq_getElem_cons hi2
                rw [hdr] at h2
                injection h2 with h2 _
                rw [List.take_succ_eq_append_getElem hi2, List.all_append, a2, ← h2]
                simp [hdc])
              have hT1 : (Kn.dig (V * 10)).length ≤ i + 1 := by
                refine Nat.le_trans (Kn.dig_len_le (k := (Kn.dig V).length + 1) ?_) (by omega)
                have := Kn.dig_lt (n := V)
                rw [Kn.pw_succ]; omega
              have hT2 : (Kn.dig V2).length ≤ i + 1 := by
                refine Nat.le_trans (Kn.dig_len_le (k := (Kn.dig V).length + 1) ?_) (by omega)
                have := Kn.dig_lt (n := V)
                rw [Kn.pw_succ, hV2.out]; omega
              have HTM := Lib.hid (fun (W : World) (h : Sl W W.heap.size C cc (Kn.dig V)) => (by have := rtimesWord_any C cc (Kn.dig V) 10 W h (by omega) (by omega); rwa [Kn.val_dig] at this : Calls Tryd.prog 87 #[.slice C (Kn.dig V).length cc, .int .u64 10] W (MagRes (V * 10) W)))
              have HAD := Lib.hid (fun (W : World) (E : Option Addr) (ce g : Nat) (h1 : Sl W W.heap.size E ce (Kn.dig (V * 10))) (h2 : W.cell? ⟨g, 0, none⟩ = some (.int .u32 (dg : Int))) => (by have := raddWords_any E ce (Kn.dig (V * 10)) (some ⟨g, 0, none⟩) 1 [dg] W h1 (sl_one h2 (by omega)) (by omega) (by simp); rw [Kn.val_one, Kn.val_dig, ← hV2.out] at this; exact this : Calls Tryd.prog 65 #[.slice E (Kn.dig (V * 10)).length ce, .slice (some ⟨g, 0, none⟩) 1 1] W (MagRes V2 W)))
              have ew8 : IntKind.u8.wrap (dg : Int) = (dg : Int) := (by decide : ∀ k : Fin 10, IntKind.u8.wrap (k.1 : Int) = (k.1 : Int)) ⟨dg, by omega⟩
              have ew32 : IntKind.u32.wrap (dg : Int) = (dg : Int) := (by decide : ∀ k : Fin 10, IntKind.u32.wrap (k.1 : Int) = (k.1 : Int)) ⟨dg, by omega⟩
              clear hdr hdc hdg HV hT1
              go_wp2_with fail
              have n0 : (wr.alloc (.cells #[.int .u32 (dg : Int)] 53)).drew.cell? ⟨wr.heap.size, 0, none⟩ = some (.int .u32 (dg : Int)) := newx wr _
              go_region_held3 (fun _ => True)
                (exact trivial)
                (first
                  | (go_at_call 87; (with_reducible refine (HTM.out _ M.drew.o).mono ?_); rintro e w' ⟨At, ct, rfl, hTS, hb⟩; replace M := M.drew.below hb; clear hb)
                  | (go_at_call 87; (with_reducible refine (HTM.out _ (M.alloc _).drew.o).mono ?_); rintro e w' ⟨At, ct, rfl, hTS, hb⟩; have kz := (hb.cell (p := ⟨wr.heap.size, 0, none⟩) (by simp)).trans n0; replace M := (M.alloc _).drew.below hb; clear hb)
                  | (go_at_call 65; (with_reducible refine (HAD.out _ _ _ _ hTS kz).mono ?_); rintro e w9 ⟨A9, c9, rfl, hR, hb9⟩; replace M := M.below hb9; clear hb9)
                  | (go_at_call 65; (with_reducible refine (HAD.out _ _ _ _ (hTS.nx (al1 _ _)) (newx _ _)).mono ?_); rintro e w9 ⟨A9, c9, rfl, hR, hb9⟩; replace M := (M.alloc _).below hb9; clear hb9))
              all_goals
                have M9 : Rp w w9 A9 c9 (Kn.dig V2) := ⟨M.b, hR⟩
                go_wp2_with fail
                go_roundw
                case rel => exact ⟨i + 1, V2, A9, c9, by omega, by go_num, rfl, hT2, M9, HV2⟩
                case measure => simp [intOf]; omega
            · have HP : Hid (p = (6, 0)) := Lib.hid (by
                rw [HS.out]
                refine rz_bad ?_
                rw [← List.take_append_drop i (bs d), List.all_append, hdr, List.all_cons]
                rw [Bool.not_eq_true] at hdc
                rw [hdc]; simp)
              have J := M.b
              have d0 := J.t1.c0
              have d1 := J.t1.c1
              have f0 := J.t1.fr 0
              have f1 := J.t1.fr 1
              have hzl := J.t1.lt
              have hcase : d[i].toNat < 48 ∨ (¬ d[i].toNat < 48 ∧ 57 < d[i].toNat) := by
                unfold Kt.digC at hdc
                simp at hdc
                omega
              clear hdc hdr HV
              rcases hcase with hcase | ⟨hcase, hcase2⟩
              · have z1 : ((d[i].toNat : Nat) : Int) < 48 := by omega
                go_wp2_with fail
                have tp := J.t1.put (.bool false) (.slice none 0 0)
                have r0 := tp.c0
                have r1 := tp.c1
                refine bodyPost_ret (v := .tuple #[.agg #[.bool false, .slice none 0 0], .int .i64 6]) (by simp [results, Tryd.results47, go_sem, r0, r1]) rfl ?_
                exact PRes.err HP.out ((J.bel.setCell (p := ⟨w.heap.size, 0, none⟩) (Nat.le_refl _) _).setCell (p := ⟨w.heap.size, 1, none⟩) (Nat.le_refl _) _)
              · have z1 : ¬ ((d[i].toNat : Nat) : Int) < 48 := by omega
                have z2 : 57 < ((d[i].toNat : Nat) : Int) := by omega
                go_wp2_with fail
                have tp := J.t1.put (.bool false) (.slice none 0 0)
                have r0 := tp.c0
                have r1 := tp.c1
                refine bodyPost_ret (v := .tuple #[.agg #[.bool false, .slice none 0 0], .int .i64 6]) (by simp [results, Tryd.results47, go_sem, r0, r1]) rfl ?_
                exact PRes.err HP.out ((J.bel.setCell (p := ⟨w.heap.size, 0, none⟩) (Nat.le_refl _) _).setCell (p := ⟨w.heap.size, 1, none⟩) (Nat.le_refl _) _)
          · have hltI : ¬ (i : Int) < (d.size : Int) := by omega
            obtain ⟨a1, a2⟩ := HV.out
            rw [List.take_of_length_le (by omega)] at a1 a2
            have hpp := HOK.out a2
            have J := M.b
            by_cases h6 : 600 < d.size
            · first
                | (exfalso; omega)
                | (have h6I : (600 : Int) < (d.size : Int) := by omega
                   have HP : Hid (p = (5, 0)) := Lib.hid (by rw [hpp, if_pos h6])
                   have d0 := J.t1.c0
                   have d1 := J.t1.c1
                   have f0 := J.t1.fr 0
                   have f1 := J.t1.fr 1
                   have hzl := J.t1.lt
                   clear a1 a2 hpp HV
                   go_wp2_with fail
                   have tp := J.t1.put (.bool false) (.slice none 0 0)
                   have r0 := tp.c0
                   have r1 := tp.c1
                   refine bodyPost_ret (v := .tuple #[.agg #[.bool false, .slice none 0 0], .int .i64 5]) (by simp [results, Tryd.results47, go_sem, r0, r1]) rfl ?_
                   exact PRes.err HP.out ((J.bel.setCell (p := ⟨w.heap.size, 0, none⟩) (Nat.le_refl _) _).setCell (p := ⟨w.heap.size, 1, none⟩) (Nat.le_refl _) _))
            · have h6I : ¬ (600 : Int) < (d.size : Int) := by omega
              obtain ⟨z, HPz, hsg⟩ : ∃ z : Int, Hid (p = (0, z)) ∧ Hid (Calls Tryd.prog 59 #[.bool false, .slice C (Kn.dig V).length cc] wr (IntRes z wr)) :=
                ⟨Kn.iv false (Kn.dig V), Lib.hid (by rw [hpp, if_neg h6, ← a1]; unfold Kn.iv sgnZ; rw [Kn.val_dig]), Lib.hid (made_any false C cc (Kn.dig V) wr M.o (by omega))⟩
              clear a1 a2 hpp HV HOK
              go_wp2_with fail
              refine hsg.out.mono ?_
              rintro e w6 ⟨A6, c6, rfl, hS, hb6⟩
              have J6 := J.below hb6
              have d0 := J6.t1.c0
              have d1 := J6.t1.c1
              have f0 := J6.t1.fr 0
              have f1 := J6.t1.fr 1
              have hzl := J6.t1.lt
              clear J M hb6 hsg
              go_wp2_with fail
              have tp := J6.t1.put (.bool (decide (z < 0))) (.slice A6 (Kn.dig z.natAbs).length c6)
              have r0 := tp.c0
              have r1 := tp.c1
              refine bodyPost_ret (v := .tuple #[.agg #[.bool (decide (z < 0)), .slice A6 (Kn.dig z.natAbs).length c6], .int .i64 0]) (by simp [results, Tryd.results47, go_sem, r0, r1]) rfl ?_
              rw [HPz.out]
              exact ⟨A6, c6, rfl, (hS.put J6.t1 _ _).more (by simp [World.setCell]), (J6.bel.setCell (p := ⟨w.heap.size, 0, none⟩) (Nat.le_refl _) _).setCell (p := ⟨w.heap.size, 1, none⟩) (Nat.le_refl _) _⟩
end Go.Proofs.YtckenemkfegopaaDoor
