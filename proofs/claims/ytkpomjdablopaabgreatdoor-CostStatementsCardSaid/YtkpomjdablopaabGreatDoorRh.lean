/- Walks: arguments of the reference of package cost. -/
import Derived.Test.YtkpomjdablopaabGreatDoorRg
namespace Go.Proofs.YtkpomjdablopaabGreatDoor
open Go.RowKit Go.Sort
set_option linter.unusedVariables false

/-- the code of a model, places and values -/
def raC (c : C) (ps vs : List E) : Int :=
  if c.ok then (if orL (ps.map (E.chk nmB)) = 0 then (if orL (vs.map (E.chk nmB)) = 0 then (if ps.all E.place then 0 else 1) else orL (vs.map (E.chk nmB))) else orL (ps.map (E.chk nmB))) else 3
theorem orL_all {l : List E} (h : orL (l.map (E.chk nmB)) = 0) : ∀ e ∈ l, E.chk nmB e = 0 := by
  induction l with
  | nil => intro e he; cases he
  | cons a l ih =>
    rw [List.map_cons, orL] at h
    by_cases h0 : E.chk nmB a = 0
    · rw [if_pos h0] at h
      intro e he
      rcases List.mem_cons.1 he with rfl | he
      · exact h0
      · exact ih h e he
    · rw [if_neg h0] at h; exact absurd h h0
/-- expressions that the reference can look at -/
structure OkF (w : World) (A : Option Addr) (l : List E) : Prop where
  li : E.L w w.heap.size A l
  fit : ∀ e : E, e ∈ l → e.any E.big = false ∧ e.nodes ≤ 1000000
theorem OkF.fitAt {w wr : World} {A : Option Addr} {l : List E} (h : OkF w A l) (hb : Below w.heap.size w wr) {i : Nat} {e : E} (his : E.Is l i e) (hin : E.In wr w.heap.size e) : Fit wr e :=
  ⟨hin.more hb.size, (h.fit e his.mem).1, (h.fit e his.mem).2⟩
theorem OkF.at {w w' : World} {A : Option Addr} {l : List E} (h : OkF w A l) (hb : Below w.heap.size w w') : OkF w' A l := ⟨h.li.at hb, h.fit⟩
theorem OkF.okl {w : World} {A : Option Addr} {l : List E} (h : OkF w A l) : Okl w A l := ⟨h.li, fun e he => (h.fit e he).1⟩
theorem OkF.nil (w : World) : OkF w none [] := ⟨⟨by simp, Row.nil _ _ _, fun e he => by cases he⟩, fun e he => by cases he⟩
theorem OkF.new1 (w : World) (e : E) (T : TypeId) (h : Fit w e) : OkF (w.alloc (.cells e.box T)) (some ⟨w.heap.size, 0, none⟩) [e] :=
  ⟨(Okl.new1 w e T h.good).li, fun x hx => by simp at hx; subst hx; exact ⟨h.big, h.nod⟩⟩
set_option maxRecDepth 100000 in
set_option maxHeartbeats 4000000 in
theorem rargs_any (c : C) (ps vs : List E) (A B : Option Addr) (ca cb : Nat) (w : World) (hp : OkF w A ps) (hv : OkF w B vs) : Calls Tryz.prog 38 #[c.val, .slice A ps.length ca, .slice B vs.length cb] w fun r w' => r = .returned (.int .i64 (raC c ps vs)) ∧ Below w.heap.size w w' := by
  have hlen1 := hp.li.len
  have hlen2 := hv.li.len
  cases hok : c.ok with
  | false =>
    have HK : Hid (c.code = 3) := Lib.hid (by unfold C.code; rw [hok]; rfl)
    have HR : Hid (raC c ps vs = 3) := Lib.hid (by unfold raC; rw [hok]; rfl)
    clear hok
    go_enter Tryz.func38, Tryz.ntmps38
    go_wp2_with fail
    refine (rcheck_any c _).mono ?_
    rintro r w1 ⟨rfl, b1⟩
    rw [HK.out]
    have b2 := bTrans (al1 w _) b1
    clear b1
    go_wp2_with fail
    go_ret
    exact ⟨ret_int HR.out.symm, b2⟩
  | true =>
  have HK : Hid (c.code = 0) := Lib.hid (by unfold C.code; rw [hok]; rfl)
  have HR0 : Hid (raC c ps vs = (if orL (ps.map (E.chk nmB)) = 0 then (if orL (vs.map (E.chk nmB)) = 0 then (if ps.all E.place then 0 else 1) else orL (vs.map (E.chk nmB))) else orL (ps.map (E.chk nmB)))) := Lib.hid (by unfold raC; rw [hok]; rfl)
  clear hok
  by_cases h1 : orL (ps.map (E.chk nmB)) = 0
  case neg =>
    have HR : Hid (raC c ps vs = orL (ps.map (E.chk nmB))) := Lib.hid (by rw [HR0.out, if_neg h1])
    have HNZ := Lib.hid h1
    clear h1 HR0
    go_enter Tryz.func38, Tryz.ntmps38
    go_wp2_with fail
    refine (rcheck_any c _).mono ?_
    rintro r w1 ⟨rfl, b1⟩
    rw [HK.out]
    have b2 := bTrans (al1 w _) b1
    clear b1
    go_wp2_with fail
    go_loopw [7] (fun iv wr => ∃ i : Nat, i ≤ ps.length ∧ iv = .int .i64 i ∧ Hid (∀ j, (hj : j < (ps.map (E.chk nmB)).length) → j < i → (ps.map (E.chk nmB))[j] = 0) ∧ Below w.heap.size w wr) (fun iv _ => ps.length - (intOf iv).toNat)
    case atStart => exact ⟨0, Nat.zero_le _, rfl, Lib.hid (fun j hj h => absurd h (Nat.not_lt_zero _)), b2⟩
    case round =>
      clear b2
      obtain ⟨i, hi, rfl, hz, hb⟩ := hrel
      by_cases hlt : i < ps.length
      · obtain ⟨ab, off, e, rfl, hab, d0, d1, d2, d3, his, hin⟩ := (hp.li.below hb).at_ hlt
        have HF := Lib.hid (hp.fitAt hb his hin)
        obtain ⟨z, hzz⟩ : ∃ z, Hid (E.chk nmB e = z) := ⟨_, Lib.hid rfl⟩
        have HG : Hid ((ps.map (E.chk nmB))[i]? = some z) := Lib.hid (by
          obtain ⟨h1, h2⟩ := his.eq
          rw [List.getElem?_map, List.getElem?_eq_getElem hlt, h2, ← hzz.out]; rfl)
        clear hin
        by_cases h0 : z = 0
        · have hx0 : (z != 0) = false := by simpa using h0
          have HN : Hid (∀ j, (hj : j < (ps.map (E.chk nmB)).length) → j < i + 1 → (ps.map (E.chk nmB))[j] = 0) := Lib.hid (fun j hj h => by
            by_cases e : j = i
            · subst e
              have := HG.out
              rw [List.getElem?_eq_getElem hj] at this
              rw [Option.some.inj this]; exact h0
            · exact hz.out j hj (by omega))
          clear hz h0
          go_wp2_with fail
          refine (xcheck_any e _ HF.out).mono ?_
          rintro r w3 ⟨rfl, b4⟩
          rw [hzz.out]
          have b5 := bTrans hb b4
          go_wp2_with fail
          go_roundw
          case rel => exact ⟨i + 1, by omega, by go_num, HN, b5⟩
          case measure => simp [intOf]; omega
        · have hx0 : (z != 0) = true := by simpa using h0
          have HR2 : Hid (orL (ps.map (E.chk nmB)) = z) := Lib.hid (by
            have hlt2 : i < (ps.map (E.chk nmB)).length := by simpa using hlt
            rw [orL_skip hz.out, List.drop_eq_getElem_cons hlt2]
            have := HG.out
            rw [List.getElem?_eq_getElem hlt2] at this
            show (if (ps.map (E.chk nmB))[i] = 0 then _ else _) = _
            rw [Option.some.inj this, if_neg h0])
          clear hz h0
          go_wp2_with fail
          refine (xcheck_any e _ HF.out).mono ?_
          rintro r w3 ⟨rfl, b4⟩
          rw [hzz.out]
          have b5 := bTrans hb b4
          go_wp2_with fail
          go_ret
          exact ⟨ret_int (by rw [HR.out, HR2.out]), b5⟩
      · exfalso
        obtain rfl : i = ps.length := by omega
        refine HNZ.out ?_
        have hd : (ps.map (E.chk nmB)).drop ps.length = [] := by rw [List.drop_eq_nil_iff, List.length_map]; exact Nat.le_refl _
        rw [orL_skip hz.out, hd]; rfl
  case pos =>
  have Zps := Lib.hid (orL_all h1)
  by_cases h2 : orL (vs.map (E.chk nmB)) = 0
  case neg =>
    have HR : Hid (raC c ps vs = orL (vs.map (E.chk nmB))) := Lib.hid (by rw [HR0.out, if_pos h1, if_neg h2])
    have HNZ := Lib.hid h2
    clear h1 h2 HR0
    go_enter Tryz.func38, Tryz.ntmps38
    go_wp2_with fail
    refine (rcheck_any c _).mono ?_
    rintro r w1 ⟨rfl, b1⟩
    rw [HK.out]
    have b2 := bTrans (al1 w _) b1
    clear b1
    go_wp2_with fail
    go_loopw [7] (fun iv wr => ∃ i : Nat, i ≤ ps.length ∧ iv = .int .i64 i ∧ Below w.heap.size w wr) (fun iv _ => ps.length - (intOf iv).toNat)
    case atStart => exact ⟨0, Nat.zero_le _, rfl, b2⟩
    case round =>
      clear b2
      obtain ⟨i, hi, rfl, hb⟩ := hrel
      by_cases hlt : i < ps.length
      · obtain ⟨ab, off, e, rfl, hab, d0, d1, d2, d3, his, hin⟩ := (hp.li.below hb).at_ hlt
        have HF := Lib.hid (hp.fitAt hb his hin)
        have HZ : Hid (E.chk nmB e = 0) := Lib.hid (Zps.out _ his.mem)
        clear hin
        go_wp2_with fail
        refine (xcheck_any e _ HF.out).mono ?_
        rintro r w3 ⟨rfl, b4⟩
        rw [HZ.out]
        have b5 := bTrans hb b4
        go_wp2_with fail
        go_roundw
        case rel => exact ⟨i + 1, by omega, by go_num, b5⟩
        case measure => simp [intOf]; omega
      · obtain rfl : i = ps.length := by omega
        go_wp2_with fail
        go_loopw [9] (fun iv wr => ∃ i : Nat, i ≤ vs.length ∧ iv = .int .i64 i ∧ Hid (∀ j, (hj : j < (vs.map (E.chk nmB)).length) → j < i → (vs.map (E.chk nmB))[j] = 0) ∧ Below w.heap.size w wr) (fun iv _ => vs.length - (intOf iv).toNat)
        case atStart => exact ⟨0, Nat.zero_le _, rfl, Lib.hid (fun j hj h => absurd h (Nat.not_lt_zero _)), hb⟩
        case round =>
          clear hb
          obtain ⟨i, hi, rfl, hz, hb⟩ := hrel
          by_cases hlt : i < vs.length
          · obtain ⟨ab, off, e, rfl, hab, d0, d1, d2, d3, his, hin⟩ := (hv.li.below hb).at_ hlt
            have HF := Lib.hid (hv.fitAt hb his hin)
            obtain ⟨z, hzz⟩ : ∃ z, Hid (E.chk nmB e = z) := ⟨_, Lib.hid rfl⟩
            have HG : Hid ((vs.map (E.chk nmB))[i]? = some z) := Lib.hid (by
              obtain ⟨h1, h2⟩ := his.eq
              rw [List.getElem?_map, List.getElem?_eq_getElem hlt, h2, ← hzz.out]; rfl)
            clear hin
            by_cases h0 : z = 0
            · have hx0 : (z != 0) = false := by simpa using h0
              have HN : Hid (∀ j, (hj : j < (vs.map (E.chk nmB)).length) → j < i + 1 → (vs.map (E.chk nmB))[j] = 0) := Lib.hid (fun j hj h => by
                by_cases e : j = i
                · subst e
                  have := HG.out
                  rw [List.getElem?_eq_getElem hj] at this
                  rw [Option.some.inj this]; exact h0
                · exact hz.out j hj (by omega))
              clear hz h0
              go_wp2_with fail
              refine (xcheck_any e _ HF.out).mono ?_
              rintro r w3 ⟨rfl, b4⟩
              rw [hzz.out]
              have b5 := bTrans hb b4
              go_wp2_with fail
              go_roundw
              case rel => exact ⟨i + 1, by omega, by go_num, HN, b5⟩
              case measure => simp [intOf]; omega
            · have hx0 : (z != 0) = true := by simpa using h0
              have HR2 : Hid (orL (vs.map (E.chk nmB)) = z) := Lib.hid (by
                have hlt2 : i < (vs.map (E.chk nmB)).length := by simpa using hlt
                rw [orL_skip hz.out, List.drop_eq_getElem_cons hlt2]
                have := HG.out
                rw [List.getElem?_eq_getElem hlt2] at this
                show (if (vs.map (E.chk nmB))[i] = 0 then _ else _) = _
                rw [Option.some.inj this, if_neg h0])
              clear hz h0
              go_wp2_with fail
              refine (xcheck_any e _ HF.out).mono ?_
              rintro r w3 ⟨rfl, b4⟩
              rw [hzz.out]
              have b5 := bTrans hb b4
              go_wp2_with fail
              go_ret
              exact ⟨ret_int (by rw [HR.out, HR2.out]), b5⟩
          · exfalso
            obtain rfl : i = vs.length := by omega
            refine HNZ.out ?_
            have hd : (vs.map (E.chk nmB)).drop vs.length = [] := by rw [List.drop_eq_nil_iff, List.length_map]; exact Nat.le_refl _
            rw [orL_skip hz.out, hd]; rfl
  case pos =>
    have Zvs := Lib.hid (orL_all h2)
    have HR : Hid (raC c ps vs = (if ps.all E.place then 0 else 1)) := Lib.hid (by rw [HR0.out, if_pos h1, if_pos h2])
    clear h1 h2 HR0
    go_enter Tryz.func38, Tryz.ntmps38
    go_wp2_with fail
    refine (rcheck_any c _).mono ?_
    rintro r w1 ⟨rfl, b1⟩
    rw [HK.out]
    have b2 := bTrans (al1 w _) b1
    clear b1
    go_wp2_with fail
    go_loopw [7] (fun iv wr => ∃ i : Nat, i ≤ ps.length ∧ iv = .int .i64 i ∧ Below w.heap.size w wr) (fun iv _ => ps.length - (intOf iv).toNat)
    case atStart => exact ⟨0, Nat.zero_le _, rfl, b2⟩
    case round =>
      clear b2
      obtain ⟨i, hi, rfl, hb⟩ := hrel
      by_cases hlt : i < ps.length
      · obtain ⟨ab, off, e, rfl, hab, d0, d1, d2, d3, his, hin⟩ := (hp.li.below hb).at_ hlt
        have HF := Lib.hid (hp.fitAt hb his hin)
        have HZ : Hid (E.chk nmB e = 0) := Lib.hid (Zps.out _ his.mem)
        clear hin
        go_wp2_with fail
        refine (xcheck_any e _ HF.out).mono ?_
        rintro r w3 ⟨rfl, b4⟩
        rw [HZ.out]
        have b5 := bTrans hb b4
        go_wp2_with fail
        go_roundw
        case rel => exact ⟨i + 1, by omega, by go_num, b5⟩
        case measure => simp [intOf]; omega
      · obtain rfl : i = ps.length := by omega
        go_wp2_with fail
        go_loopw [9] (fun iv wr => ∃ i : Nat, i ≤ vs.length ∧ iv = .int .i64 i ∧ Below w.heap.size w wr) (fun iv _ => vs.length - (intOf iv).toNat)
        case atStart => exact ⟨0, Nat.zero_le _, rfl, hb⟩
        case round =>
          clear hb
          obtain ⟨i, hi, rfl, hb⟩ := hrel
          by_cases hlt : i < vs.length
          · obtain ⟨ab, off, e, rfl, hab, d0, d1, d2, d3, his, hin⟩ := (hv.li.below hb).at_ hlt
            have HF := Lib.hid (hv.fitAt hb his hin)
            have HZ : Hid (E.chk nmB e = 0) := Lib.hid (Zvs.out _ his.mem)
            clear hin
            go_wp2_with fail
            refine (xcheck_any e _ HF.out).mono ?_
            rintro r w3 ⟨rfl, b4⟩
            rw [HZ.out]
            have b5 := bTrans hb b4
            go_wp2_with fail
            go_roundw
            case rel => exact ⟨i + 1, by omega, by go_num, b5⟩
            case measure => simp [intOf]; omega
          · obtain rfl : i = vs.length := by omega
            go_wp2_with fail
            go_loopw [11] (fun iv wr => ∃ i : Nat, i ≤ ps.length ∧ iv = .int .i64 i ∧ Hid (∀ k, k < i → ∀ e', E.Is ps k e' → e'.place = true) ∧ Below w.heap.size w wr) (fun iv _ => ps.length - (intOf iv).toNat)
            case atStart => exact ⟨0, Nat.zero_le _, rfl, Lib.hid (fun k hk => absurd hk (Nat.not_lt_zero _)), hb⟩
            case round =>
              clear hb
              obtain ⟨i, hi, rfl, hg, hb⟩ := hrel
              by_cases hlt : i < ps.length
              · obtain ⟨ab, off, e, rfl, hab, d0, d1, d2, d3, his, hin⟩ := (hp.li.below hb).at_ hlt
                clear hin
                cases hpl : e.place with
                | false =>
                  have HQ : Hid (raC c ps vs = 1) := Lib.hid (by rw [HR.out, E.all_bad his hpl]; rfl)
                  have HB2 := Lib.hid hpl
                  clear hpl hg
                  go_wp2_with fail
                  refine (risPlace15_any e _).mono ?_
                  rintro r w2 ⟨rfl, b2⟩
                  rw [HB2.out]
                  go_wp2_with fail
                  go_ret
                  exact ⟨ret_int HQ.out.symm, bTrans hb b2⟩
                | true =>
                  have HG : Hid (∀ k, k < i + 1 → ∀ e', E.Is ps k e' → e'.place = true) := Lib.hid (E.all_next hg.out his hpl)
                  have HB2 := Lib.hid hpl
                  clear hpl hg
                  go_wp2_with fail
                  refine (risPlace15_any e _).mono ?_
                  rintro r w2 ⟨rfl, b2⟩
                  rw [HB2.out]
                  have b3 := bTrans hb b2
                  go_wp2_with fail
                  go_roundw
                  case rel => exact ⟨i + 1, by omega, by go_num, HG, b3⟩
                  case measure => simp [intOf]; omega
              · obtain rfl : i = ps.length := by omega
                have HQ : Hid (raC c ps vs = 0) := Lib.hid (by rw [HR.out, E.all_good hg.out]; rfl)
                go_wp2_with fail
                go_ret
                exact ⟨ret_int HQ.out.symm, hb⟩
end Go.Proofs.YtkpomjdablopaabGreatDoor
