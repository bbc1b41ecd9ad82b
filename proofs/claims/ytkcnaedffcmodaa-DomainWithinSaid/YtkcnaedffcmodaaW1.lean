/- Walks: domainOf. -/
import Derived.Test.YtkcnaedffcmodaaVar
namespace Go.Proofs.Ytkcnaedffcmodaa
open Go.RowKit Go.Maps
set_option linter.unusedVariables false

/-- the first part of a domain: digits that the call makes, and how many vectors (4097: more) -/
structure DoInv (w wr : World) (v : Value) (ds : List (Int × Nat)) (sp : Nat) : Prop where
  own : wr.ownsRow (w.heap.size + 2) 62 2 v ds.length (dflat ds)
  ret : Two wr w.heap.size (.slice none 0 0) (.int .i64 0)
  box : Two wr (w.heap.size + 1) v (.int .i64 (sp : Nat))
  bel : Below w.heap.size w wr
theorem DoInv.size {w wr : World} {v : Value} {ds : List (Int × Nat)} {sp : Nat} (h : DoInv w wr v ds sp) : w.heap.size + 1 < wr.heap.size := h.box.lt
theorem DoInv.alloc {w wr : World} {v : Value} {ds : List (Int × Nat)} {sp : Nat} (h : DoInv w wr v ds sp) (o : Obj) : DoInv w (wr.alloc o) v ds sp :=
  ⟨h.own.alloc o, h.ret.alloc o, h.box.alloc o, bAlloc h.bel o⟩
theorem DoInv.grown {w wr w3 : World} {v v' : Value} {ds : List (Int × Nat)} {sp : Nat} {o : Obj} {x : Int} {y : Nat} (h : DoInv w wr v ds sp)
    (ho : w3.ownsRow (w.heap.size + 2) 62 2 v' (ds.length + 1) (dflat ds ++ [.int .i64 x, .int .i64 (y : Nat)]))
    (hgr : (wr.alloc o).grownBy w3 v.ownBlock) : w3.ownsRow (w.heap.size + 2) 62 2 v' (ds ++ [(x, y)]).length (dflat (ds ++ [(x, y)])) ∧ Two w3 w.heap.size (.slice none 0 0) (.int .i64 0) ∧ Two w3 (w.heap.size + 1) v (.int .i64 (sp : Nat)) ∧ Below w.heap.size w w3 := by
  have hne : ∀ k, v.ownBlock = some k → w.heap.size + 2 ≤ k := fun k hk => (h.own.lt k hk).1
  refine ⟨?_, ?_, ?_, ?_⟩
  · rw [dflat_append, List.length_append]; exact ho
  · exact (h.ret.alloc o).grown hgr fun e => by have := hne _ e.symm; omega
  · exact (h.box.alloc o).grown hgr fun e => by have := hne _ e.symm; omega
  · exact (bAlloc h.bel o).grown hgr (by have := h.size; rw [World.size_alloc]; omega) fun k hk => by have := hne k hk; omega

theorem DoInv.put {w w3 : World} {v v' : Value} {ds : List (Int × Nat)} {sp sp' : Nat} (ho : w3.ownsRow (w.heap.size + 2) 62 2 v' ds.length (dflat ds)) (hr : Two w3 w.heap.size (.slice none 0 0) (.int .i64 0)) (hb : Two w3 (w.heap.size + 1) v (.int .i64 (sp : Nat))) (hB : Below w.heap.size w w3) :
    DoInv w ((w3.setCell ⟨w.heap.size + 1, 0, none⟩ v').setCell ⟨w.heap.size + 1, 1, none⟩ (.int .i64 (sp' : Nat))) v' ds sp' :=
  ⟨ownsRow_setCell_below (ownsRow_setCell_below ho (by show w.heap.size + 1 < w.heap.size + 2; omega) _) (by show w.heap.size + 1 < w.heap.size + 2; omega) _, (hr.far (by simp) _).far (by simp) _, hb.put _ _, (hB.setCell (by simp) _).setCell (by simp) _⟩

/-- what domainOf hands back -/
def DomP (k : Int) (vs : List Kd.V) (w : World) (e : Ending) (w' : World) : Prop :=
  Below w.heap.size w w' ∧ ((Kd.code k vs = 0 ∧ ∃ A c, e = .returned (.tuple #[domV A (Kd.digs k vs).length c (Kd.pr (Kd.digs k vs) : Nat), .int .i64 0]) ∧ Dgs w' w'.heap.size A (Kd.digs k vs))
    ∨ (Kd.code k vs ≠ 0 ∧ e = .returned (.tuple #[domV none 0 0 0, .int .i64 (Kd.code k vs)])))
theorem DomP.bad {k : Int} {vs : List Kd.V} {w w' : World} {C : Int} (h : Kd.code k vs = C) (hC : C ≠ 0) (hb : Below w.heap.size w w') : DomP k vs w (.returned (.tuple #[domV none 0 0 0, .int .i64 C])) w' :=
  ⟨hb, .inr ⟨by rw [h]; exact hC, by rw [h]⟩⟩
namespace Kd
theorem code_kind {k : Int} {vs : List V} (h : k < 0 ∨ 3 < k) : code k vs = 1 := by unfold code; rw [if_pos h]
theorem code_range {k : Int} {vs : List V} (h : ¬ (k < 0 ∨ 3 < k)) {v : V} (hv : v ∈ vs) (hk : v.kd = k) (hb : badV v = true) : code k vs = 3 := by
  unfold code
  rw [if_neg h, if_pos]
  exact List.any_eq_true.2 ⟨v, by unfold sel; rw [List.mem_filter]; exact ⟨hv, by simpa using hk⟩, hb⟩
theorem code_end {k : Int} {vs : List V} (h : ¬ (k < 0 ∨ 3 < k)) (hb : (sel k vs).any badV = false) : code k vs = if 4096 < pr (digs k vs) then 4 else 0 := by
  unfold code
  rw [if_neg h, if_neg (by rw [hb]; decide)]
theorem digs_hit {k : Int} {vs : List V} {v : V} (h : v.kd = k) : digs k (vs ++ [v]) = digs k vs ++ [dig v] := by
  unfold digs; rw [sel_snoc, if_pos h, List.map_append]; rfl
theorem digs_miss {k : Int} {vs : List V} {v : V} (h : v.kd ≠ k) : digs k (vs ++ [v]) = digs k vs := by
  unfold digs; rw [sel_snoc, if_neg h, List.append_nil]
theorem any_hit {k : Int} {vs : List V} {v : V} (h : v.kd = k) : (sel k (vs ++ [v])).any badV = ((sel k vs).any badV || badV v) := by
  rw [sel_snoc, if_pos h, List.any_append]; simp
theorem any_miss {k : Int} {vs : List V} {v : V} (h : v.kd ≠ k) : (sel k (vs ++ [v])).any badV = (sel k vs).any badV := by
  rw [sel_snoc, if_neg h, List.append_nil]
theorem digs_le {k : Int} {vs : List V} : (digs k vs).length ≤ vs.length := by
  rw [digs_len]; exact List.length_filter_le _ _
end Kd

set_option maxRecDepth 100000 in
set_option maxHeartbeats 2000000 in
theorem dom_any (A : Option Addr) (c : Nat) (vs : List Kd.V) (k : Int) (w : World) (h : Vrs w w.heap.size A vs) (hl : vs.length ≤ 1000000) :
    Calls Try.prog 26 #[.slice A vs.length c, .int .i64 k] w (DomP k vs w) := by
  obtain ⟨i0, hi, hz0, hz1, hz2⟩ := info_parts infoDig
  by_cases hk0 : k < 0
  · have hR := Lib.hid (Kd.code_kind (vs := vs) (.inl hk0))
    go_enter Try.func26, Try.ntmps26
    go_wp2_with fail
    go_returns
    exact DomP.bad hR.out (by decide) (by repeat (first | exact Below.refl _ _ | refine bDrew ?_ _ | refine Below.drew ?_ | refine Below.alloc ?_ (by simp) _ | refine Below.setCell ?_ (by simp) _))
  by_cases hk3 : 3 < k
  · have hR := Lib.hid (Kd.code_kind (vs := vs) (.inr hk3))
    go_enter Try.func26, Try.ntmps26
    go_wp2_with fail
    go_returns
    exact DomP.bad hR.out (by decide) (by repeat (first | exact Below.refl _ _ | refine bDrew ?_ _ | refine Below.drew ?_ | refine Below.alloc ?_ (by simp) _ | refine Below.setCell ?_ (by simp) _))
  have hkk : Hid (¬ (k < 0 ∨ 3 < k)) := Lib.hid (by omega)
  go_enter Try.func26, Try.ntmps26
  go_wp2_with fail
  have I0 : DoInv w ((w.alloc (.cells #[.slice none 0 0, .int .i64 0] 54)).alloc (.cells #[.slice none 0 0, .int .i64 1] 54)) (.slice none 0 0) [] 1 := by
    refine ⟨World.ownsRow_nil _ _ _ _, (Two.new_ _ _ _ _).alloc _, ?_, bAlloc (newB1 _ _) _⟩
    have := Two.new_ (w.alloc (.cells #[.slice none 0 0, .int .i64 0] 54)) (.slice none 0 0) (.int .i64 1) 54
    rwa [World.size_alloc] at this
  go_loopw [20] (fun iv wr => ∃ (i : Nat) (v : Value), i ≤ vs.length ∧ iv = .int .i64 i ∧ Hid ((Kd.sel k (vs.take i)).any Kd.badV = false) ∧ DoInv w wr v (Kd.digs k (vs.take i)) (min (Kd.pr (Kd.digs k (vs.take i))) 4097)) (fun iv _ => vs.length - (intOf iv).toNat)
  case atStart => exact ⟨0, _, Nat.zero_le _, rfl, Lib.hid rfl, I0⟩
  case round =>
    clear I0
    obtain ⟨i, v, hi1, rfl, hok, I⟩ := hrel
    by_cases hlt : i < vs.length
    · obtain ⟨b, off, nm, kd, lo, hi2, ini, rfl, hbb, c0, c1, c2, c3, c4, hv, hbd⟩ := (h.below I.bel).at_ hlt
      have hsz := I.size
      by_cases hkd : kd = k
      · subst hkd
        have hT := Lib.hid hv.take
        have J := I.alloc (.cells #[.string nm, .int .i64 kd, .int .i64 lo, .int .i64 hi2, .int .i64 ini] 51)
        have jr0 := J.ret.c0
        have jr1 := J.ret.c1
        have jrf := J.ret.fr
        have jp := J.ret.put (.slice none 0 0) (.int .i64 0)
        have jp0 := jp.c0
        have jp1 := jp.c1
        have JB : Below w.heap.size w (((wr.alloc (.cells #[.string nm, .int .i64 kd, .int .i64 lo, .int .i64 hi2, .int .i64 ini] 51)).setCell ⟨w.heap.size, 0, none⟩ (.slice none 0 0)).setCell ⟨w.heap.size, 1, none⟩ (.int .i64 0)) := (J.bel.setCell (by simp) _).setCell (by simp) _
        have BAD : Kd.badV ⟨nm, kd, lo, hi2, ini⟩ = true → Hid (Kd.code kd vs = 3) := fun hb => Lib.hid (Kd.code_range hkk.out hv.mem rfl hb)
        by_cases h1 : hi2 < lo
        · have hR := BAD (by unfold Kd.badV; simp; omega)
          clear BAD
          go_wp2_with fail
          exact bodyPost_ret (v := .tuple #[domV none 0 0 0, .int .i64 3]) (by simp [results, Try.results26, go_sem, jp0, jp1, domV]) rfl (DomP.bad hR.out (by decide) JB)
        by_cases h2 : lo < -1048576
        · have hR := BAD (by unfold Kd.badV; simp; omega)
          clear BAD
          go_wp2_with fail
          exact bodyPost_ret (v := .tuple #[domV none 0 0 0, .int .i64 3]) (by simp [results, Try.results26, go_sem, jp0, jp1, domV]) rfl (DomP.bad hR.out (by decide) JB)
        by_cases h3 : 1048576 < hi2
        · have hR := BAD (by unfold Kd.badV; simp; omega)
          clear BAD
          go_wp2_with fail
          exact bodyPost_ret (v := .tuple #[domV none 0 0 0, .int .i64 3]) (by simp [results, Try.results26, go_sem, jp0, jp1, domV]) rfl (DomP.bad hR.out (by decide) JB)
        have hbv : Kd.badV ⟨nm, kd, lo, hi2, ini⟩ = false := by unfold Kd.badV; simp; omega
        obtain ⟨q, hq⟩ : ∃ q : Nat, Hid ((Kd.dig ⟨nm, kd, lo, hi2, ini⟩).2 = q) := ⟨_, Lib.hid rfl⟩
        have hq1 : hi2 - lo + 1 = (q : Int) := by rw [← hq.out]; exact (Kd.dig_bd hbv).2.2.2.symm
        have hq0 : 0 < q := by omega
        have hok2 : Hid ((Kd.sel kd (vs.take (i + 1))).any Kd.badV = false) := Lib.hid (by rw [hT.out, Kd.any_hit (v := ⟨nm, kd, lo, hi2, ini⟩) rfl, hok.out, hbv]; rfl)
        have hds : Hid (Kd.digs kd (vs.take (i + 1)) = Kd.digs kd (vs.take i) ++ [(lo, q)]) := Lib.hid (by rw [hT.out, Kd.digs_hit (v := ⟨nm, kd, lo, hi2, ini⟩) rfl, ← hq.out]; rfl)
        have hsp : Hid (min (Kd.pr (Kd.digs kd (vs.take (i + 1)))) 4097 = min (min (Kd.pr (Kd.digs kd (vs.take i))) 4097 * q) 4097) := Lib.hid (by rw [hds.out, Kd.pr_snoc, Kd.cap_step hq0])
        have hdl : (Kd.digs kd (vs.take i)).length ≤ 1000000 := Nat.le_trans Kd.digs_le (by rw [List.length_take]; omega)
        clear BAD hbv jr0 jr1 jrf jp jp0 jp1 JB hok
        have hspl : min (Kd.pr (Kd.digs kd (vs.take i))) 4097 ≤ 4097 := Nat.min_le_right _ _
        revert J hds hsp hdl hspl
        generalize Kd.digs kd (vs.take i) = ds
        generalize min (Kd.pr ds) 4097 = sp
        intro J hds hsp hdl hspl
        obtain ⟨A', c', rfl⟩ := own_sliceN J.own
        obtain ⟨m, hm⟩ : ∃ m : Nat, Hid (m = sp * q) := ⟨_, Lib.hid rfl⟩
        have hmb : m ≤ 4097 * 2097153 := by rw [hm.out]; exact Nat.mul_le_mul hspl (by omega)
        have hmin : ∀ W : World, (Builtin.min_ #[3, 3] 3 #[.int .i64 (m : Int), .int .i64 4097]).run Try.prog W = .ok (.int .i64 ((min m 4097 : Nat) : Int)) W := fun W => min2 _ _ _ (by omega) _ _ W
        have hmul : wrap64 ((sp : Int) * (q : Int)) = (m : Int) := by
          rw [show (sp : Int) * (q : Int) = (m : Int) by rw [hm.out]; simp]
          exact IntWalk.wrap64_in _ (by omega)
        have jb0 := J.box.c0
        have jb1 := J.box.c1
        have jbf := J.box.fr
        clear I
        have ho := J.own
        go_wp2_with (at_builtin; refine wpList_append_own _ rfl _ _ 52 rfl (w.heap.size + 2) 62 i0 (.agg #[.int .i64 0, .int .i64 0]) 2 16 Try.underlying52 hi hz0 hz1 hz2 rfl (by decide) _ _ _ rfl (ho.alloc _) ⟨_, 0, none⟩ 1 1 [.int .i64 lo, .int .i64 (q : Int)] rfl rfl ?c1 ?c2 ?c3 ?c4 ?c5 ?_)
        case c2 => exact ⟨rfl, rfl⟩
        case c3 => unfold maxLen; omega
        case c4 => omega
        case c5 => first | omega | (simp; omega)
        intro v' w3 hown' hgrow _
        obtain ⟨A3, c3', rfl⟩ := own_sliceN hown'
        obtain ⟨o3, r3, b3, B3⟩ := J.grown hown' hgrow
        clear hown' hgrow ho J jb0 jb1 jbf
        have jb0 := b3.c0
        have jb1 := b3.c1
        have jbf := b3.fr
        have jb2 := (b3.put0 (.slice A3 (ds.length + 1) c3')).c1
        go_wp2_with fail
        go_roundw
        case rel => exact ⟨i + 1, _, by omega, by go_num, hok2, by rw [hsp.out, hds.out, ← hm.out]; exact DoInv.put o3 r3 b3 B3⟩
        case measure => simp [intOf]; omega
      · have hT := Lib.hid hv.take
        have hne : (kd != k) = true := by simpa using hkd
        have HN : Hid (kd ≠ k) := Lib.hid hkd
        have hok2 : Hid ((Kd.sel k (vs.take (i + 1))).any Kd.badV = false) := Lib.hid (by rw [hT.out, Kd.any_miss HN.out]; exact hok.out)
        have hds : Hid (Kd.digs k (vs.take (i + 1)) = Kd.digs k (vs.take i)) := Lib.hid (by rw [hT.out, Kd.digs_miss HN.out])
        clear hkd hok
        go_wp2_with fail
        go_roundw
        case rel => exact ⟨i + 1, v, by omega, by go_num, hok2, by rw [hds.out]; exact I.alloc _⟩
        case measure => simp [intOf]; omega
    · obtain rfl : i = vs.length := by omega
      have hend := Lib.hid (Kd.code_end hkk.out (by have := hok.out; rwa [List.take_length] at this))
      rw [List.take_length] at I
      have hdl : (Kd.digs k vs).length ≤ 1000000 := Nat.le_trans Kd.digs_le (by omega)
      clear hok
      obtain ⟨A', c', rfl⟩ := own_sliceN I.own
      have hD : Dgs wr wr.heap.size A' (Kd.digs k vs) := ⟨Row.of_ownN I.own⟩
      have jb0 := I.box.c0
      have jb1 := I.box.c1
      have jr0 := I.ret.c0
      have jr1 := I.ret.c1
      have jrf := I.ret.fr
      by_cases hp : 4096 < Kd.pr (Kd.digs k vs)
      · have hR : Hid (Kd.code k vs = 4) := Lib.hid (by rw [hend.out, if_pos hp])
        have hm : min (Kd.pr (Kd.digs k vs)) 4097 = 4097 := by omega
        rw [hm] at jb1
        have jp := I.ret.put (.slice none 0 0) (.int .i64 0)
        have jp0 := jp.c0
        have jp1 := jp.c1
        clear hm hend
        go_wp2_with fail
        exact bodyPost_ret (v := .tuple #[domV none 0 0 0, .int .i64 4]) (by simp [results, Try.results26, go_sem, jp0, jp1, domV]) rfl (DomP.bad hR.out (by decide) ((I.bel.setCell (by simp) _).setCell (by simp) _))
      · have hR : Hid (Kd.code k vs = 0) := Lib.hid (by rw [hend.out, if_neg hp])
        have hm : min (Kd.pr (Kd.digs k vs)) 4097 = Kd.pr (Kd.digs k vs) := by omega
        rw [hm] at jb1
        clear hm hend
        obtain ⟨p, hpp⟩ : ∃ p, Hid (Kd.pr (Kd.digs k vs) = p) := ⟨_, Lib.hid rfl⟩
        rw [hpp.out] at jb1 hp
        have hp' : p ≤ 4096 := by omega
        have jp := I.ret.put (.slice A' (Kd.digs k vs).length c') (.int .i64 (p : Nat))
        have jp0 := jp.c0
        have jp1 := jp.c1
        clear hp
        go_wp2_with fail
        refine bodyPost_ret (v := .tuple #[domV A' (Kd.digs k vs).length c' (p : Nat), .int .i64 0]) (by simp [results, Try.results26, go_sem, jp0, jp1, domV]) rfl ⟨(I.bel.setCell (by simp) _).setCell (by simp) _, .inl ⟨hR.out, A', c', by rw [hpp.out], ?_⟩⟩
        exact ⟨Row.of_ownN (ownsRow_setCell_below (ownsRow_setCell_below I.own (by show w.heap.size < w.heap.size + 2; omega) _) (by show w.heap.size < w.heap.size + 2; omega) _)⟩
end Go.Proofs.Ytkcnaedffcmodaa
