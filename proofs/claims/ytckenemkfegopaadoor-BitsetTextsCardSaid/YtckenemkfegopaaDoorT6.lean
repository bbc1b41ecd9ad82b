/- Walks: the package's Parse (written by gen/mkbtparse.py). -/
import Derived.Test.YtckenemkfegopaaDoorT5
import Derived.Test.YtckenemkfegopaaDoorTe
import Derived.Test.YtckenemkfegopaaDoorLawChanges
import Derived.Test.YtckenemkfegopaaDoorWn
import Derived.Test.YtckenemkfegopaaDoorWo
namespace Go.Proofs.YtckenemkfegopaaDoor
open Go.RowKit
set_option linter.unusedVariables false

theorem cut_snd_le (l sep : List UInt8) : (Lib.cut l sep).2.1.length ≤ l.length := by
  unfold Lib.cut
  split
  · show (l.drop _).length ≤ _
    rw [List.length_drop]; omega
  · exact Nat.zero_le _
theorem trim_le (l p : List UInt8) : (Lib.trimPrefix l p).length ≤ l.length := by
  unfold Lib.trimPrefix
  split
  · rw [List.length_drop]; omega
  · exact Nat.le_refl _
theorem btext_ok (n : Nat) (A : Option Addr) (c : Nat) (ws : List Nat) (w : World) (h : Words w w.heap.size A ws) (hok : Kb.Ok n ws) (hn : n ≤ 4096) (ht : Tabs w) :
    Calls Tryd.prog 49 #[setV n A ws.length c] w fun e w' => e = .returned (.string (mkB (Kt.txt n (Kb.membersTo (Kb.bitAt ws) n)))) ∧ Below w.heap.size w w' := by
  rw [← textOf_txt]
  exact text_ok n A c ws w h hok hn ht
theorem str_yes {l : List UInt8} {s : ByteArray} (h : l = bs s) : ((mkB l).toList == s.toList) = true := by rw [bs_toList, bs_toList, bs_mk, h]; exact beq_self_eq_true _
theorem str_no {l : List UInt8} {s : ByteArray} (h : l ≠ bs s) : ((mkB l).toList == s.toList) = false := by rw [bs_toList, bs_toList, bs_mk]; exact beq_eq_false_iff_ne.2 h
/-- what Parse hands back for what the text names -/
def ParRes (p : Option (Nat × List Nat)) (w : World) (e : Ending) (w' : World) : Prop :=
  match p with
  | some (n, ms) => OutRes n (Kt.wordsT n ms) 0 w e w'
  | none => OutRes 0 [] 6 w e w'
theorem ParRes.no {p : Option (Nat × List Nat)} {w w' : World} {e : Ending} (hp : p = none) (h : ErrRes 6 w e w') : ParRes p w e w' := by
  rw [hp]; exact OutRes.of_err h
theorem ParRes.yes {p : Option (Nat × List Nat)} {n : Nat} {ms : List Nat} {w w' : World} {e : Ending} (hp : p = some (n, ms)) (h : OutRes n (Kt.wordsT n ms) 0 w e w') : ParRes p w e w' := by
  rw [hp]; exact h
theorem drewB (w : World) (q : Nat) : Below w.heap.size w (w.drewN q) := ⟨rfl, rfl, rfl, Nat.le_refl _, fun _ _ => rfl⟩

set_option maxRecDepth 100000 in
set_option maxHeartbeats 8000000 in
theorem parse_any (s : ByteArray) (hs : s.size ≤ 100000) (w : World) (hT : BtT w) :
    Calls Tryd.prog 51 #[.string s] w (ParRes (Kt.pR 4096 (bs s)) w) := by
  have hlen := bs_length s
  have hc1 := Kt.cut_fst_le (bs s) [125, 47]
  have hc2 := cut_snd_le (bs s) [125, 47]
  obtain ⟨P, hP⟩ : ∃ P, Hid (P = Lib.cut (bs s) [125, 47]) := ⟨_, Lib.hid rfl⟩
  rw [← hP.out] at hc1 hc2
  have hc3 := trim_le P.1 [123]
  go_enter Tryd.func51, Tryd.ntmps51
  go_wp2_with fail
  have i1 : ChInv w (w.alloc (.cells #[.int .i64 0, .slice none 0 0] 46)) (.int .i64 0) (.slice none 0 0) := ⟨Two.new_ _ _ _ _, (Below.refl _ _).alloc (Nat.le_refl _) _⟩
  refine (cut_any s ⟨#[125, 47]⟩ (by omega) _ (hT.below i1.bel)).mono ?_
  rintro e wx ⟨rfl, q, rfl⟩
  have i2 := i1.below (drewB _ q)
  clear i1
  rw [show bs ⟨#[125, 47]⟩ = [125, 47] from rfl, ← hP.out]
  revert i2
  generalize (w.alloc (.cells #[.int .i64 0, .slice none 0 0] 46)).drewN q = w2
  intro i2
  go_wp2_with fail
  refine (trim_any (mkB P.1) ⟨#[123]⟩ _).mono ?_
  rintro e wx ⟨rfl, rfl⟩
  rw [bs_mk, show bs ⟨#[123]⟩ = [123] from rfl]
  go_wp2_with fail
  refine (ascending_any (mkB (Lib.trimPrefix P.1 [123])) (by rw [mk_size]; omega) _ (hT.below i2.bel)).mono ?_
  rw [bs_mk]
  rintro e w3 ⟨hb3, ⟨hA, rfl⟩ | ⟨zs, A, c, hA, rfl, hI, hzl⟩⟩
  · have i3 := i2.below hb3
    clear i2 hb3
    have HR : Hid (Kt.pR 4096 (bs s) = none) := Lib.hid (by
      cases hq : Kt.pR 4096 (bs s) with
      | none => rfl
      | some p =>
        obtain ⟨n, ms⟩ := p
        have h := (Kt.par_some hq).1
        rw [← hP.out, hA] at h
        cases h)
    clear hA
    go_wp2_with fail
    refine (atoi_ans (mkB P.2.1) (by rw [mk_size]; omega) _ (hT.below i3.bel)).mono ?_
    rintro e w4 ⟨hb4, ⟨v, hv, rfl⟩ | ⟨hv, v, N, rfl⟩⟩
    · have i4 := i3.below hb4
      clear hv i3 hb4
      have d10 := i4.t1.c0
      have d11 := i4.t1.c1
      have f10 := i4.t1.fr 0
      have f11 := i4.t1.fr 1
      have hz := i4.t1.lt
      go_wp2_with fail
      have tp := i4.t1.put (.int .i64 0) (.slice none 0 0)
      have r0 := tp.c0
      have r1 := tp.c1
      refine bodyPost_ret (v := .tuple #[setV 0 none 0 0, .int .i64 6]) (by simp [results, Tryd.results51, go_sem, r0, r1, setV]) rfl ?_
      exact ParRes.no HR.out ⟨rfl, (i4.bel.setCell (p := ⟨w.heap.size, 0, none⟩) (Nat.le_refl _) _).setCell (p := ⟨w.heap.size, 1, none⟩) (Nat.le_refl _) _⟩
    · have i4 := i3.below hb4
      clear hv i3 hb4
      have d10 := i4.t1.c0
      have d11 := i4.t1.c1
      have f10 := i4.t1.fr 0
      have f11 := i4.t1.fr 1
      have hz := i4.t1.lt
      go_wp2_with fail
      have tp := i4.t1.put (.int .i64 0) (.slice none 0 0)
      have r0 := tp.c0
      have r1 := tp.c1
      refine bodyPost_ret (v := .tuple #[setV 0 none 0 0, .int .i64 6]) (by simp [results, Tryd.results51, go_sem, r0, r1, setV]) rfl ?_
      exact ParRes.no HR.out ⟨rfl, (i4.bel.setCell (p := ⟨w.heap.size, 0, none⟩) (Nat.le_refl _) _).setCell (p := ⟨w.heap.size, 1, none⟩) (Nat.le_refl _) _⟩
  · have i3 := i2.below hb3
    clear i2 hb3
    go_wp2_with fail
    refine (atoi_ans (mkB P.2.1) (by rw [mk_size]; omega) _ (hT.below i3.bel)).mono ?_
    rintro e w4 ⟨hb4, ⟨v, hv, rfl⟩ | ⟨hv, v, N, rfl⟩⟩
    · rw [bs_mk] at hv
      have i4 := i3.below hb4
      have hI4 := (hI.below hb4).more hb4.size
      clear i3 hb4 hI
      by_cases hr : 0 ≤ v ∧ v ≤ 4096
      · obtain ⟨n, rfl⟩ := Int.eq_ofNat_of_zero_le hr.1
        have hn : n ≤ 4096 := by omega
        clear hr
        cases hin : inB n zs with
        | false =>
          have HR : Hid (Kt.pR 4096 (bs s) = none) := Lib.hid (by
            cases hq : Kt.pR 4096 (bs s) with
            | none => rfl
            | some p =>
              obtain ⟨n2, ms⟩ := p
              obtain ⟨h1, h2, h3, h4, h5, h6⟩ := Kt.par_some hq
              rw [← hP.out, hA] at h1
              rw [← hP.out, hv] at h2
              injection h1 with h1
              injection h2 with h2
              have e2 : n = n2 := by omega
              rw [← e2, ← h1, hin] at h4
              cases h4)
          clear hA hv
          go_wp2_with fail
          refine (of_bad n hn A c zs _ hI4 (by omega) hin).mono ?_
          rintro e w5 ⟨rfl, hb5⟩
          have i5 := (i4.below hb5).alloc (.cells #[.int .i64 0, .slice none 0 0] 46)
          have j5 := i4.below hb5
          clear i4 hb5 hI4 hin
          unfold setV
          have k10 := j5.t1.c0
          have k11 := j5.t1.c1
          have g10 := j5.t1.fr 0
          have g11 := j5.t1.fr 1
          have kz := j5.t1.lt
          have d10 := i5.t1.c0
          have d11 := i5.t1.c1
          have f10 := i5.t1.fr 0
          have f11 := i5.t1.fr 1
          have hz := i5.t1.lt
          go_wp2_with fail
          have tp := (j5.t1.put (.int .i64 0) (.slice none 0 0)).alloc (.cells #[.int .i64 0, .slice none 0 0] 46)
          have r0 := tp.c0
          have r1 := tp.c1
          refine bodyPost_ret (v := .tuple #[setV 0 none 0 0, .int .i64 6]) (by simp [results, Tryd.results51, go_sem, r0, r1, setV]) rfl ?_
          exact ParRes.no HR.out ⟨rfl, ((j5.bel.setCell (p := ⟨w.heap.size, 0, none⟩) (Nat.le_refl _) _).setCell (p := ⟨w.heap.size, 1, none⟩) (Nat.le_refl _) _).alloc (by have := j5.bel.size; simp [World.setCell]; omega) _⟩
        | true =>
          go_wp2_with fail
          refine (of_ok n hn A c zs _ hI4 (by omega) hin).mono ?_
          rintro e w5 ⟨A2, c2, rfl, hW, hb5⟩
          have hOk := Kb.Ok.mk_ n (memB zs)
          have hcase : Hid ((Kt.txt n (Kb.membersTo (Kb.bitAt (Kb.mkWords n (memB zs))) n) = bs s ∧ ∃ ms, Kt.pR 4096 (bs s) = some (n, ms) ∧ Kb.mkWords n (memB zs) = Kt.wordsT n ms) ∨
              (Kt.txt n (Kb.membersTo (Kb.bitAt (Kb.mkWords n (memB zs))) n) ≠ bs s ∧ Kt.pR 4096 (bs s) = none)) := Lib.hid (by
            by_cases hT2 : Kt.txt n (Kb.membersTo (Kb.bitAt (Kb.mkWords n (memB zs))) n) = bs s
            · left
              have hp := Kt.par_txt (Kb.bitAt (Kb.mkWords n (memB zs))) hn
              rw [hT2] at hp
              have h1 := (Kt.par_some hp).1
              rw [← hP.out, hA] at h1
              injection h1 with h1
              exact ⟨hT2, _, hp, by unfold Kt.wordsT; rw [← h1]⟩
            · right
              refine ⟨hT2, ?_⟩
              cases hq : Kt.pR 4096 (bs s) with
              | none => rfl
              | some p =>
                exfalso
                obtain ⟨n2, ms⟩ := p
                obtain ⟨h1, h2, h3, h4, h5, h6⟩ := Kt.par_some hq
                rw [← hP.out, hA] at h1
                rw [← hP.out, hv] at h2
                injection h1 with h1
                injection h2 with h2
                have e2 : n = n2 := by omega
                subst e2
                rw [h1] at hT2
                exact hT2 (by rw [h6]; congr 1))
          have i5 := (i4.below hb5).alloc (.cells #[.int .i64 (n : Int), .slice A2 (Kb.mkWords n (memB zs)).length c2] 46)
          have p5 := Kept.new_ (sz := (n : Int)) (c := c2) hW 46
          clear hA hv i4 hb5 hI4 hin hW
          revert hcase hOk i5 p5
          generalize Kb.mkWords n (memB zs) = ws
          intro hOk hcase i5 p5
          unfold setV
          go_wp2_with fail
          revert i5 p5
          generalize w5.alloc (.cells #[.int .i64 (n : Int), .slice A2 ws.length c2] 46) = w6
          generalize w5.heap.size = b
          intro i5 p5
          have d0 := p5.t.c0
          have d1 := p5.t.c1
          refine (btext_ok n A2 c2 ws _ p5.ws hOk hn (hT.tabs.below i5.bel)).mono ?_
          rintro e w7 ⟨rfl, hb7⟩
          have i7 := i5.below hb7
          have p7 := p5.below hb7
          clear i5 p5 hb7 d0 d1
          have d0 := p7.t.c0
          have d1 := p7.t.c1
          rcases hcase.out with ⟨hT2, ms, hp, hws⟩ | ⟨hT2, hp⟩
          · have he := str_yes hT2
            have HR := Lib.hid hp
            have HW := Lib.hid hws
            clear hcase hT2 hp hws
            revert he
            generalize Kt.txt n (Kb.membersTo (Kb.bitAt ws) n) = T
            intro he
            have d10 := i7.t1.c0
            have d11 := i7.t1.c1
            have f10 := i7.t1.fr 0
            have f11 := i7.t1.fr 1
            have hz := i7.t1.lt
            go_wp2_with fail
            have tp := i7.t1.put (.int .i64 (n : Int)) (.slice A2 ws.length c2)
            have r0 := tp.c0
            have r1 := tp.c1
            refine bodyPost_ret (v := .tuple #[setV (n : Int) A2 ws.length c2, .int .i64 0]) (by simp [results, Tryd.results51, go_sem, r0, r1, setV]) rfl ?_
            exact ParRes.yes HR.out ⟨A2, c2, by rw [← HW.out], by rw [← HW.out]; exact (p7.ws.put_two i7.t1 _ _).more (by simp [World.setCell]), (i7.bel.setCell (p := ⟨w.heap.size, 0, none⟩) (Nat.le_refl _) _).setCell (p := ⟨w.heap.size, 1, none⟩) (Nat.le_refl _) _⟩
          · have he := str_no hT2
            have HR := Lib.hid hp
            clear hcase hT2 hp
            revert he
            generalize Kt.txt n (Kb.membersTo (Kb.bitAt ws) n) = T
            intro he
            have d10 := i7.t1.c0
            have d11 := i7.t1.c1
            have f10 := i7.t1.fr 0
            have f11 := i7.t1.fr 1
            have hz := i7.t1.lt
            go_wp2_with fail
            have tp := i7.t1.put (.int .i64 0) (.slice none 0 0)
            have r0 := tp.c0
            have r1 := tp.c1
            refine bodyPost_ret (v := .tuple #[setV 0 none 0 0, .int .i64 6]) (by simp [results, Tryd.results51, go_sem, r0, r1, setV]) rfl ?_
            exact ParRes.no HR.out ⟨rfl, (i7.bel.setCell (p := ⟨w.heap.size, 0, none⟩) (Nat.le_refl _) _).setCell (p := ⟨w.heap.size, 1, none⟩) (Nat.le_refl _) _⟩
      · have HR : Hid (Kt.pR 4096 (bs s) = none) := Lib.hid (by
          cases hq : Kt.pR 4096 (bs s) with
          | none => rfl
          | some p =>
            exfalso
            obtain ⟨n2, ms⟩ := p
            obtain ⟨h1, h2, h3, h4, h5, h6⟩ := Kt.par_some hq
            rw [← hP.out, hv] at h2
            injection h2 with h2
            omega)
        clear hA hv
        go_wp2_with fail
        refine (of_badsize v hr _ _).mono ?_
        rintro e w5 ⟨rfl, hb5⟩
        have i5 := (i4.below hb5).alloc (.cells #[.int .i64 0, .slice none 0 0] 46)
        have j5 := i4.below hb5
        clear i4 hb5 hI4 hr
        unfold setV
        have k10 := j5.t1.c0
        have k11 := j5.t1.c1
        have g10 := j5.t1.fr 0
        have g11 := j5.t1.fr 1
        have kz := j5.t1.lt
        have d10 := i5.t1.c0
        have d11 := i5.t1.c1
        have f10 := i5.t1.fr 0
        have f11 := i5.t1.fr 1
        have hz := i5.t1.lt
        go_wp2_with fail
        have tp := (j5.t1.put (.int .i64 0) (.slice none 0 0)).alloc (.cells #[.int .i64 0, .slice none 0 0] 46)
        have r0 := tp.c0
        have r1 := tp.c1
        refine bodyPost_ret (v := .tuple #[setV 0 none 0 0, .int .i64 6]) (by simp [results, Tryd.results51, go_sem, r0, r1, setV]) rfl ?_
        exact ParRes.no HR.out ⟨rfl, ((j5.bel.setCell (p := ⟨w.heap.size, 0, none⟩) (Nat.le_refl _) _).setCell (p := ⟨w.heap.size, 1, none⟩) (Nat.le_refl _) _).alloc (by have := j5.bel.size; simp [World.setCell]; omega) _⟩
    · rw [bs_mk] at hv
      have i4 := i3.below hb4
      have HR : Hid (Kt.pR 4096 (bs s) = none) := Lib.hid (by
        cases hq : Kt.pR 4096 (bs s) with
        | none => rfl
        | some p =>
          obtain ⟨n2, ms⟩ := p
          have h2 := (Kt.par_some hq).2.1
          rw [← hP.out] at h2
          exact absurd h2 (hv _))
      clear hA hv i3 hb4 hI
      have d10 := i4.t1.c0
      have d11 := i4.t1.c1
      have f10 := i4.t1.fr 0
      have f11 := i4.t1.fr 1
      have hz := i4.t1.lt
      go_wp2_with fail
      have tp := i4.t1.put (.int .i64 0) (.slice none 0 0)
      have r0 := tp.c0
      have r1 := tp.c1
      refine bodyPost_ret (v := .tuple #[setV 0 none 0 0, .int .i64 6]) (by simp [results, Tryd.results51, go_sem, r0, r1, setV]) rfl ?_
      exact ParRes.no HR.out ⟨rfl, (i4.bel.setCell (p := ⟨w.heap.size, 0, none⟩) (Nat.le_refl _) _).setCell (p := ⟨w.heap.size, 1, none⟩) (Nat.le_refl _) _⟩
end Go.Proofs.YtckenemkfegopaaDoor
