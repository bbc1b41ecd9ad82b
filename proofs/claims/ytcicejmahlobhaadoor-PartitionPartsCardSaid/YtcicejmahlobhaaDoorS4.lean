/- Walks: Part. -/
import Derived.Test.YtcicejmahlobhaaDoorS3
import Derived.Test.YtcicejmahlobhaaDoorBWk
import Derived.Deep.DeepCutAuto
import Derived.BigRegion
namespace Go.Proofs.YtcicejmahlobhaaDoor
open Go.RowKit Bs
set_option linter.unusedVariables false

theorem memB_clF (f : Nat → Int) (c : Int) (n j : Nat) : memB (Kp.clF f c n) j = (decide (j < n) && f j == c) := by
  induction n with
  | zero => rfl
  | succ n ih =>
    by_cases h : f n = c
    · rw [Kp.clF_hit h]
      unfold memB at ih ⊢
      rw [List.any_append, ih]
      by_cases e : j = n
      · subst e; simp [h]
      · simp only [List.any_cons, List.any_nil, Bool.or_false]
        rw [show ((n : Int) == (j : Int)) = false by simp; omega, Bool.or_false, show decide (j < n + 1) = decide (j < n) by simp; omega]
    · rw [Kp.clF_miss h, ih]
      by_cases e : j = n
      · subst e; simp [h]
      · rw [show decide (j < n + 1) = decide (j < n) by simp; omega]
theorem inB_clF (f : Nat → Int) (c : Int) (m n : Nat) (hm : m ≤ n) : inB n (Kp.clF f c m) = true := by
  induction m with
  | zero => rfl
  | succ m ih =>
    by_cases h : f m = c
    · rw [Kp.clF_hit h]
      have := ih (by omega)
      unfold inB at this ⊢
      rw [List.all_append, this]
      simp; omega
    · rw [Kp.clF_miss h]; exact ih (by omega)

/-- the words of a part -/
def ptW (p : List Int) (n : Nat) (ws : List Nat) (c : Nat) : List Nat := Kb.mkWords n fun j => Kp.lab p j == (c : Int) && Kb.bitAt ws j
theorem ptW_inter {p : List Int} {n c : Nat} {ws : List Nat} (hv : Kp.vB p = true) (hp : p.length = n) : (Kb.mkWords n fun j => Kb.bitAt ws j && Kb.bitAt (Kb.mkWords n (memB (Kp.clL p (c : Int)))) j) = ptW p n ws c := by
  refine Kb.mkWords_congr fun j hj => ?_
  rw [Kb.bitAt_mkWords]
  unfold Kp.clL
  rw [if_pos hv, memB_clF, hp]
  simp only [hj, decide_true, Bool.true_and]
  exact Bool.and_comm _ _

/-- Part's world: the set in a box, the result in another -/
structure PtInv (w wr : World) (x y : Value) : Prop where
  t : Two wr w.heap.size x y
  r : Two wr (w.heap.size + 1) (.int .i64 0) (.slice none 0 0)
  bel : Below w.heap.size w wr
theorem PtInv.below {w wr wx : World} {x y : Value} (h : PtInv w wr x y) (hb : Below wr.heap.size wr wx) : PtInv w wx x y := ⟨h.t.below hb h.t.lt, h.r.below hb h.r.lt, h.bel.trans (hb.mono h.bel.size)⟩
theorem PtInv.alloc {w wr : World} {x y : Value} (h : PtInv w wr x y) (o : Obj) : PtInv w (wr.alloc o) x y := ⟨h.t.alloc o, h.r.alloc o, h.bel.alloc h.bel.size o⟩
theorem PtInv.drew {w wr : World} {x y : Value} (h : PtInv w wr x y) : PtInv w wr.drew x y := ⟨h.t.drew, h.r.drew, h.bel.drew⟩
theorem PtInv.new_ (w : World) (x y : Value) (T T' : TypeId) : PtInv w ((w.alloc (.cells #[x, y] T)).alloc (.cells #[.int .i64 0, .slice none 0 0] T')) x y :=
  ⟨(Two.new_ _ _ _ _).alloc _, by simpa using Two.new_ (w.alloc (.cells #[x, y] T)) (.int .i64 0) (.slice none 0 0) T', ((Below.refl _ _).alloc (Nat.le_refl _) _).alloc (by simp) _⟩

theorem Bs.Words.put_two {w : World} {B b n c : Nat} {A a : Option Addr} {ws : List Nat} {x : Int} (h : Words w B A ws) (t : Two w b (.int .i64 x) (.slice a n c)) (u v : Value) : Words ((w.setCell ⟨b, 0, none⟩ u).setCell ⟨b, 1, none⟩ v) B A ws := by
  refine ⟨⟨fun hp => ?_⟩, h.lt⟩
  obtain ⟨b', off, hA, hb, hc⟩ := h.row.cells hp
  refine ⟨b', off, hA, hb, fun k u' hu => ?_⟩
  have h1 := hc k u' hu
  by_cases e : b' = b
  · subst e
    exfalso
    obtain ⟨T, hT⟩ := t.blk
    rw [cell_of_row w b' (off + k) _ _ _ hT] at h1
    rw [List.getElem?_map] at hu
    cases hw : ws[k]? with
    | none => rw [hw] at hu; cases hu
    | some y =>
      rw [hw] at hu
      simp only [Option.map_some, Option.some.injEq] at hu
      subst hu
      match hk : off + k with
      | 0 => rw [hk] at h1; simp at h1
      | 1 => rw [hk] at h1; simp at h1
      | m + 2 => rw [hk] at h1; simp at h1
  · rw [World.cell?_setCell_other' _ _ _ _ e, World.cell?_setCell_other' _ _ _ _ e]; exact h1

theorem pt_end {w wr : World} {x y : Value} {n : Nat} {A : Option Addr} {c : Nat} {vs : List Nat} (h : PtInv w wr x y) (hW : Words wr wr.heap.size A vs) (u v : Value) :
    SetRes n vs w (.returned (.tuple #[setV n A vs.length c, .int .i64 0])) ((wr.setCell ⟨w.heap.size + 1, 0, none⟩ u).setCell ⟨w.heap.size + 1, 1, none⟩ v) :=
  ⟨A, c, rfl, (hW.put_two h.r u v).more (by simp [World.setCell]), (h.bel.setCell (p := ⟨w.heap.size + 1, 0, none⟩) (by simp) _).setCell (p := ⟨w.heap.size + 1, 1, none⟩) (by simp) _⟩

/-- Part's world behind Of -/
structure Pt2 (w wx : World) (x y : Value) (n b9 : Nat) (A2 : Option Addr) (c2 : Nat) (vs : List Nat) : Prop where
  K : PtInv w wx x y
  t9 : Two wx b9 (.int .i64 (n : Int)) (.slice A2 vs.length c2)
  W : Words wx wx.heap.size A2 vs
theorem pt_meet {w wr : World} {x y : Value} {n b9 : Nat} {A2 : Option Addr} {c2 : Nat} {vs : List Nat} (K : PtInv w wr x y) (T : Two wr b9 (.int .i64 0) (.slice none 0 0)) (h9 : w.heap.size + 1 < b9) (hW : Words wr wr.heap.size A2 vs) :
    Pt2 w ((wr.setCell ⟨b9, 0, none⟩ (.int .i64 (n : Int))).setCell ⟨b9, 1, none⟩ (.slice A2 vs.length c2)) x y n b9 A2 c2 vs where
  K := ⟨(K.t.far (by simp; omega) _).far (by simp; omega) _, (K.r.far (by simp; omega) _).far (by simp; omega) _, (K.bel.setCell (by simp; omega) _).setCell (by simp; omega) _⟩
  t9 := T.put _ _
  W := (hW.put_two T _ _).more (by simp [World.setCell])
theorem al1 (w : World) (o : Obj) : Below w.heap.size w (w.alloc o) := (Below.refl _ _).alloc (Nat.le_refl _) o

set_option maxRecDepth 100000 in
set_option maxHeartbeats 1000000 in
theorem part_bad (A : Option Addr) (ca : Nat) (p : List Int) (size : Int) (B : Option Addr) (cb : Nat) (ws : List Nat) (c : Int) (w : World) (ha : Ints w w.heap.size A p) (hb : Words w w.heap.size B ws) (hlp : p.length ≤ 1000000) (hl : ws.length ≤ 140737488351232) (hc : scode p size ws ≠ 0) :
    Calls Tryd.prog 16 #[.slice A p.length ca, setV size B ws.length cb, .int .i64 c] w (ErrRes (scode p size ws) w) := by
  have hC : (scode p size ws != 0) = true := by simpa using hc
  have HC := Lib.hid hc
  clear hc
  unfold setV
  go_enter Tryd.func16, Tryd.ntmps16
  go_wp2_with fail
  have K0 := PtInv.new_ w (.int .i64 size) (.slice B ws.length cb) 24 24
  refine (check_any A ca p size B cb ws _ ((ha.below K0.bel).more K0.bel.size) ((hb.below K0.bel).more K0.bel.size) hlp hl).mono ?_
  rintro e w1 ⟨rfl, hb1⟩
  have K := K0.below hb1
  clear K0 hb1
  have d0 := K.r.c0
  have d1 := K.r.c1
  have f0 := K.r.fr 0
  have f1 := K.r.fr 1
  go_wp2_with fail
  obtain ⟨r0, r1⟩ := two_set w1 (.int .i64 0) (.slice none 0 0) d0 d1
  refine bodyPost_ret (v := .tuple #[setV 0 none 0 0, .int .i64 (scode p size ws)]) (by simp [results, Tryd.results16, go_sem, r0, r1, setV]) rfl ?_
  exact ⟨rfl, (K.bel.setCell (p := ⟨w.heap.size + 1, 0, none⟩) (by simp) _).setCell (p := ⟨w.heap.size + 1, 1, none⟩) (by simp) _⟩

set_option maxRecDepth 100000 in
set_option maxHeartbeats 1000000 in
theorem part_out (A : Option Addr) (ca : Nat) (p : List Int) (n : Nat) (B : Option Addr) (cb : Nat) (ws : List Nat) (c : Int) (w : World) (ha : Ints w w.heap.size A p) (hb : Words w w.heap.size B ws) (hlp : p.length ≤ 1000000) (hl : ws.length ≤ 140737488351232) (hc : scode p n ws = 0) (hcc : ¬ (0 ≤ c ∧ c < (Kp.cnt0 p : Int))) :
    Calls Tryd.prog 16 #[.slice A p.length ca, setV n B ws.length cb, .int .i64 c] w (ErrRes 3 w) := by
  have HC := Lib.hid hc
  obtain ⟨m, hm⟩ : ∃ m, Hid (Kp.cnt0 p = m) := ⟨_, Lib.hid rfl⟩
  rw [hm.out] at hcc
  clear hc
  unfold setV
  by_cases h0 : c < 0
  · clear hcc
    go_enter Tryd.func16, Tryd.ntmps16
    go_wp2_with fail
    have K0 := PtInv.new_ w (.int .i64 (n : Int)) (.slice B ws.length cb) 24 24
    refine (check_any A ca p n B cb ws _ ((ha.below K0.bel).more K0.bel.size) ((hb.below K0.bel).more K0.bel.size) hlp hl).mono ?_
    rintro e w1 ⟨rfl, hb1⟩
    rw [HC.out]
    have K := K0.below hb1
    clear K0 hb1
    have d0 := K.r.c0
    have d1 := K.r.c1
    have f0 := K.r.fr 0
    have f1 := K.r.fr 1
    go_wp2_with fail
    obtain ⟨r0, r1⟩ := two_set w1 (.int .i64 0) (.slice none 0 0) d0 d1
    refine bodyPost_ret (v := .tuple #[setV 0 none 0 0, .int .i64 3]) (by simp [results, Tryd.results16, go_sem, r0, r1, setV]) rfl ?_
    exact ⟨rfl, (K.bel.setCell (p := ⟨w.heap.size + 1, 0, none⟩) (by simp) _).setCell (p := ⟨w.heap.size + 1, 1, none⟩) (by simp) _⟩
  · have h1 : (m : Int) ≤ c := by omega
    clear hcc
    go_enter Tryd.func16, Tryd.ntmps16
    go_wp2_with fail
    have K0 := PtInv.new_ w (.int .i64 (n : Int)) (.slice B ws.length cb) 24 24
    refine (check_any A ca p n B cb ws _ ((ha.below K0.bel).more K0.bel.size) ((hb.below K0.bel).more K0.bel.size) hlp hl).mono ?_
    rintro e w1 ⟨rfl, hb1⟩
    rw [HC.out]
    have K := K0.below hb1
    clear K0 hb1
    go_wp2_with fail
    refine (bcount_any A ca p _ ((ha.below K.bel).more K.bel.size) hlp).mono ?_
    rintro e w2 ⟨rfl, hb2⟩
    rw [hm.out]
    replace K := K.below hb2
    clear hb2
    have d0 := K.r.c0
    have d1 := K.r.c1
    have f0 := K.r.fr 0
    have f1 := K.r.fr 1
    go_wp2_with fail
    obtain ⟨r0, r1⟩ := two_set w2 (.int .i64 0) (.slice none 0 0) d0 d1
    refine bodyPost_ret (v := .tuple #[setV 0 none 0 0, .int .i64 3]) (by simp [results, Tryd.results16, go_sem, r0, r1, setV]) rfl ?_
    exact ⟨rfl, (K.bel.setCell (p := ⟨w.heap.size + 1, 0, none⟩) (by simp) _).setCell (p := ⟨w.heap.size + 1, 1, none⟩) (by simp) _⟩

set_option maxRecDepth 100000 in
set_option maxHeartbeats 4000000 in
theorem part_ok (A : Option Addr) (ca : Nat) (p : List Int) (n : Nat) (B : Option Addr) (cb : Nat) (ws : List Nat) (c : Nat) (w : World) (ha : Ints w w.heap.size A p) (hb : Words w w.heap.size B ws) (hn : n ≤ 4096) (hc : scode p n ws = 0) (hcc : c < Kp.cnt0 p) :
    Calls Tryd.prog 16 #[.slice A p.length ca, setV n B ws.length cb, .int .i64 (c : Int)] w (SetRes n (ptW p n ws c) w) := by
  obtain ⟨hvp, hvs, hs⟩ := scode_zero hc
  have hpn : p.length = n := by omega
  have hok := ((Kb.validB_iff hb.lt).1 hvs).2.2
  rw [Int.toNat_natCast] at hok
  have hl : ws.length ≤ 64 := by rw [hok.len]; unfold Kb.nw; omega
  have HI := Lib.hid (ptW_inter (p := p) (n := n) (c := c) (ws := ws) hvp hpn)
  have hin : Hid (inB n (Kp.clL p (c : Int)) = true) := Lib.hid (by unfold Kp.clL; rw [if_pos hvp, hpn]; exact inB_clF _ _ _ _ (Nat.le_refl _))
  have hcl : Hid ((Kp.clL p (c : Int)).length ≤ 17592186043904) := Lib.hid (by
    unfold Kp.clL; rw [if_pos hvp, Kp.clF_length]; have := Kp.cntv_le (Kp.lab p) (c : Int) p.length; omega)
  obtain ⟨m, hm⟩ : ∃ m, Hid (Kp.cnt0 p = m) := ⟨_, Lib.hid rfl⟩
  rw [hm.out] at hcc
  have HC := Lib.hid hc
  have hpl : p.length ≤ 1000000 := by omega
  have q0 : ¬ (c : Int) < 0 := by omega
  have q1 : ¬ (m : Int) ≤ (c : Int) := by omega
  clear hc hvp hvs hs hpn hcc
  obtain ⟨Z, hZ⟩ : ∃ Z, Hid (Kp.clL p (c : Int) = Z) := ⟨_, Lib.hid rfl⟩
  rw [hZ.out] at HI hin hcl
  have hokC : Hid (Kb.Ok n (Kb.mkWords n (memB Z))) := Lib.hid (Kb.Ok.mk_ _ _)
  unfold setV
  go_enter Tryd.func16, Tryd.ntmps16
  go_wp2_with fail
  have K0 := PtInv.new_ w (.int .i64 (n : Int)) (.slice B ws.length cb) 24 24
  refine (check_any A ca p n B cb ws _ ((ha.below K0.bel).more K0.bel.size) ((hb.below K0.bel).more K0.bel.size) hpl (by omega)).mono ?_
  rintro e w1 ⟨rfl, hb1⟩
  rw [HC.out]
  have K := K0.below hb1
  clear K0 hb1
  go_wp2_with fail
  refine (bcount_any A ca p _ ((ha.below K.bel).more K.bel.size) hpl).mono ?_
  rintro e w2 ⟨rfl, hb2⟩
  rw [hm.out]
  replace K := K.below hb2
  clear hb2
  go_wp2_with fail
  go_cut [9, 10] (fun s9 s10 wx => ∃ b9 A2 c2, s9 = .pointer (some ⟨b9, 0, none⟩) ∧ s10 = .int .i64 0 ∧ Pt2 w wx (.int .i64 (n : Int)) (.slice B ws.length cb) n b9 A2 c2 (Kb.mkWords n (memB Z)))
  case first =>
    have cl0 := K.t.lt
    have c00 := K.t.c0
    have c0a : ∀ o, (w2.drew.alloc o).cell? ⟨w.heap.size, 0, none⟩ = some (.int .i64 (n : Int)) := fun o => (K.drew.alloc o).t.c0
    have cr0 := K.r.lt
    replace K := K.drew
    have c0 := K.t.c0
    have c1 := K.t.c1
    have cl := K.t.lt
    go_region_with (first
      | (go_at_call 21; refine (of_ok n hn A1 c1 Z _ hI hcl.out hin.out).mono ?_; rintro e w4 ⟨A2, c2, rfl, hW, hb4⟩; replace K := K.below hb4; (try (replace T9 := T9.below hb4 T9.lt; replace d0 := T9.c0; replace d1 := T9.c1; replace e0 := T9.fr 0; replace e1 := T9.fr 1; replace dl := T9.lt)); clear hb4 hI; replace c0 := K.t.c0; replace cl := K.t.lt; unfold setV)
      | (go_at_call 21; refine (of_ok n hn A1 c1 Z _ (hI.at (al1 _ _)) hcl.out hin.out).mono ?_; rintro e w4 ⟨A2, c2, rfl, hW, hb4⟩; have z9 := K.r.lt; replace K := (K.alloc _).below hb4; have T9 := (Two.new_ _ _ _ _).below hb4 (by simp); have d0 := T9.c0; have d1 := T9.c1; have e0 := T9.fr 0; have e1 := T9.fr 1; have dl := T9.lt; clear hb4 hI; replace c0 := K.t.c0; replace cl := K.t.lt; unfold setV)
      | (go_at_call 48; refine (bclass_any A ca p (c : Int) _ ((ha.below K.bel).more K.bel.size) hpl).mono ?_; rintro e w3 ⟨A1, c1, rfl, hI, hb3⟩; rw [hZ.out] at hI; rw [hZ.out]; replace K := K.below hb3; clear hb3; replace c0 := K.t.c0; replace cl := K.t.lt)
      | (go_at_call 48; refine (bclass_any A ca p (c : Int) _ ((ha.below (K.alloc _).bel).more (K.alloc _).bel.size) hpl).mono ?_; rintro e w3 ⟨A1, c1, rfl, hI, hb3⟩; rw [hZ.out] at hI; rw [hZ.out]; have z9 := K.r.lt; replace K := (K.alloc _).below hb3; have T9 : Two w3 w2.heap.size (.int .i64 0) (.slice none 0 0) := (Two.new_ w2.drew _ _ 24).below hb3 (by simp); have d0 := T9.c0; have d1 := T9.c1; have e0 := T9.fr 0; have e1 := T9.fr 1; have dl := T9.lt; clear hb3; replace c0 := K.t.c0; replace cl := K.t.lt))
    all_goals
      go_wp2_with fail
      go_meet
      first
        | exact ⟨_, A2, c2, rfl, rfl, pt_meet K T9 z9 hW⟩
        | exact ⟨_, A2, c2, rfl, rfl, ⟨K.alloc _, Two.new_ _ _ _ _, (hW.alloc (Nat.le_refl _) _).more (by simp)⟩⟩
  case rest =>
    obtain ⟨b9, A2, c2, rfl, rfl, P⟩ := hcut
    clear K
    have c0 := P.K.t.c0
    have c1 := P.K.t.c1
    have d0 := P.t9.c0
    have d1 := P.t9.c1
    go_wp2_with fail
    refine (inter_ok n B cb ws A2 c2 _ _ ((hb.below P.K.bel).more P.K.bel.size) P.W hok hokC.out hn).mono ?_
    rintro e w5 ⟨A3, c3, rfl, hW3, hb5⟩
    rw [HI.out] at hW3
    rw [HI.out]
    have K := P.K.below hb5
    clear c0 c1 d0 d1 hb5 P
    have d0 := K.r.c0
    have d1 := K.r.c1
    have f0 := K.r.fr 0
    have f1 := K.r.fr 1
    unfold setV
    go_wp2_with fail
    obtain ⟨r0, r1⟩ := two_set w5 (.int .i64 (n : Int)) (.slice A3 (ptW p n ws c).length c3) d0 d1
    refine bodyPost_ret (v := .tuple #[setV n A3 (ptW p n ws c).length c3, .int .i64 0]) (by simp [results, Tryd.results16, go_sem, r0, r1, setV]) rfl ?_
    exact pt_end K hW3 _ _
end Go.Proofs.YtcicejmahlobhaaDoor
