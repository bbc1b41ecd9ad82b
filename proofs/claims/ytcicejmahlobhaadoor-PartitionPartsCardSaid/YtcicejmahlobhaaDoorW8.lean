/- Walks: Join. -/
import Derived.Test.YtcicejmahlobhaaDoorW7
namespace Go.Proofs.YtcicejmahlobhaaDoor
open Go.RowKit Go.Maps
set_option linter.unusedVariables false

namespace Kp
/-- the first label in p of each class of q, so far -/
def fsL (p q : List Int) : Nat → List Int
  | 0 => []
  | k + 1 => if newB (lab q) k then fsL p q k ++ [lab p k] else fsL p q k
theorem fsL_new {p q : List Int} {k : Nat} (h : newB (lab q) k = true) : fsL p q (k + 1) = fsL p q k ++ [lab p k] := by
  show (if newB (lab q) k then _ else _) = _; rw [if_pos h]
theorem fsL_old {p q : List Int} {k : Nat} (h : newB (lab q) k = false) : fsL p q (k + 1) = fsL p q k := by
  show (if newB (lab q) k then _ else _) = _; rw [h]; rfl
theorem fsL_length (p q : List Int) (k : Nat) : (fsL p q k).length = rank (lab q) k := by
  induction k with
  | zero => rfl
  | succ k ih =>
    cases h : newB (lab q) k with
    | true => rw [fsL_new h, List.length_append, ih, rank_new h]; rfl
    | false => rw [fsL_old h, ih, rank_old h]
theorem fsL_get (p q : List Int) (k : Nat) : ∀ i, i < k → (fsL p q k).getD (cls (lab q) i) 0 = lab p (first (lab q) i) := by
  induction k with
  | zero => intro i hi; exact absurd hi (Nat.not_lt_zero _)
  | succ k ih =>
    intro i hi
    have hl := fsL_length p q k
    cases h : newB (lab q) k with
    | true =>
      rw [fsL_new h]
      by_cases e : i = k
      · subst e
        rw [cls_new h, first_self h, List.getD_eq_getElem?_getD, List.getElem?_append_right (by omega), hl]
        simp
      · have hc := cls_lt' (lab q) (show i < k by omega)
        rw [List.getD_eq_getElem?_getD, List.getElem?_append_left (by omega), ← List.getD_eq_getElem?_getD]
        exact ih i (by omega)
    | false =>
      rw [fsL_old h]
      by_cases e : i = k
      · subst e
        obtain ⟨j, hj, ej⟩ := newB_false h
        rw [← cls_same ej, ih j hj, first_same ej]
      · exact ih i (by omega)
theorem fsL_bd {p q : List Int} (hp : ∀ i, i < p.length → -9223372036854775808 ≤ lab p i ∧ lab p i ≤ 9223372036854775807) : ∀ k, k ≤ p.length → ∀ x ∈ fsL p q k, -9223372036854775808 ≤ x ∧ x ≤ 9223372036854775807 := by
  intro k
  induction k with
  | zero => intro _ x hx; cases hx
  | succ k ih =>
    intro hk x hx
    cases h : newB (lab q) k with
    | true =>
      rw [fsL_new h] at hx
      rcases List.mem_append.1 hx with hx | hx
      · exact ih (by omega) x hx
      · simp at hx; subst hx; exact hp k (by omega)
    | false => rw [fsL_old h] at hx; exact ih (by omega) x hx
end Kp

theorem Rt.below {wx wr w' : World} {g m : Nat} {r d : Nat → Nat} {L : List Nat} (h : Rt wx wr g m r d L) (hb : Below wr.heap.size wr w') : Rt wx w' g m r d L where
  fo := h.fo
  row := h.row.below hb h.row.lt
  gr := grown_trans h.gr ⟨hb.os, hb.tape, hb.output, hb.size, fun k hk _ => hb.block k hk⟩

theorem grown_cell {w w' : World} {g : Nat} (h : w.grownBy w' (some g)) {b o : Nat} {v : Value} (hc : w.cell? ⟨b, o, none⟩ = some v) (hne : b ≠ g) : w'.cell? ⟨b, o, none⟩ = some v := by
  have hlt := World.block_lt_of_cell? w _ hc
  rw [World.cell?_of_block (h.block b hlt (by simpa using hne))]; exact hc

set_option maxRecDepth 100000 in
set_option maxHeartbeats 1000000 in
theorem bjoin_err (A : Option Addr) (ca : Nat) (p : List Int) (B : Option Addr) (cb : Nat) (q : List Int) (w : World) (ha : Ints w w.heap.size A p) (hb : Ints w w.heap.size B q) (hlp : p.length ≤ 1000000) (hlq : q.length ≤ 1000000) (hc : Kp.code p q ≠ 0) :
    Calls Tryd.prog 41 #[.slice A p.length ca, .slice B q.length cb] w (PairErr (Kp.code p q) w) := by
  obtain ⟨C, hC⟩ : ∃ C, Hid (Kp.code p q = C) := ⟨_, Lib.hid rfl⟩
  rw [hC.out] at hc
  rw [hC.out]
  have hc1 : (C != 0) = true := by simpa using hc
  clear hc
  go_enter Tryd.func41, Tryd.ntmps41
  go_wp2_with fail
  refine (bcheck_any A ca p B cb q _ ha hb hlp hlq).mono ?_
  rintro e w' ⟨rfl, rfl⟩
  rw [hC.out]
  go_wp2_with fail
  go_ret2
  exact ⟨rfl, Below.refl _ _⟩

/-- Join's world: the links, their box, the firsts -/
structure JnInv (w wr : World) (p q : List Int) (C g kf kl : Nat) (v : Value) (r d : Nat → Nat) (L : List Nat) : Prop where
  fo : Kp.Fo L C r d
  row : IBlk wr g (zN L)
  box : Box wr (g + 1) (.slice (some ⟨g, 0, none⟩) C C)
  own : wr.ownsRow (g + 2) 3 1 v (Kp.fsL p q kf).length (zvals (Kp.fsL p q kf))
  hg : w.heap.size ≤ g
  hz : g + 2 ≤ wr.heap.size
  bel : Below w.heap.size w wr
  lk : Hid (Kp.Lk p q kl r)
theorem JnInv.grown {w wr w3 : World} {p q : List Int} {C g k kl : Nat} {v v' : Value} {r d : Nat → Nat} {L : List Nat} {o : Obj} (h : JnInv w wr p q C g k kl v r d L) (hn : Kp.newB (Kp.lab q) k = true)
    (ho : w3.ownsRow (g + 2) 3 1 v' ((Kp.fsL p q k).length + 1) (zvals (Kp.fsL p q k) ++ [.int .i64 (Kp.lab p k)])) (hg : (wr.alloc o).grownBy w3 v.ownBlock) : JnInv w w3 p q C g (k + 1) kl v' r d L where
  fo := h.fo
  row := (h.row.alloc o).grown hg (fun e => by have := (h.own.lt g e.symm).1; omega)
  box := by
    have hb : Box (wr.alloc o) (g + 1) (.slice (some ⟨g, 0, none⟩) C C) := (Below.heap_alloc wr o (g + 1) h.box.lt).trans h.box
    exact hb.grown hg (fun e => by have := (h.own.lt (g + 1) e.symm).1; omega)
  own := by rw [Kp.fsL_new hn, zvals_snoc, List.length_append]; exact ho
  hg := h.hg
  hz := by have := hg.size; have := h.hz; simp at *; omega
  bel := (h.bel.alloc h.bel.size o).grown hg (by have := h.bel.size; simp; omega) (fun k e => by have := (h.own.lt k e).1; have := h.hg; omega)
  lk := h.lk
theorem JnInv.old {w wr : World} {p q : List Int} {C g k kl : Nat} {v : Value} {r d : Nat → Nat} {L : List Nat} (h : JnInv w wr p q C g k kl v r d L) (hn : Kp.newB (Kp.lab q) k = false) : JnInv w wr p q C g (k + 1) kl v r d L :=
  ⟨h.fo, h.row, h.box, by rw [Kp.fsL_old hn]; exact h.own, h.hg, h.hz, h.bel, h.lk⟩
/-- the round's store -/
theorem JnInv.hung {w wr w5 : World} {p q : List Int} {C g k kl : Nat} {v : Value} {r d : Nat → Nat} {L L5 : List Nat} {a b : Nat} (h : JnInv w wr p q C g k kl v r d L) (R : Rt wr.drew w5 g C r d L5) (ha : a < C) (hb : b < C)
    (hak : a = (Kp.lab p kl).toNat) (hbk : b = (Kp.lab p (Kp.first (Kp.lab q) kl)).toNat) (hkl : kl < p.length) :
    ∃ r' d' L', JnInv w (w5.setCell ⟨g, r a, none⟩ (.int .i64 ((r b : Nat) : Int))) p q C g k (kl + 1) v r' d' L' := by
  obtain ⟨d', hF⟩ := R.fo.hang ha hb
  have hgr : wr.drew.grownBy (w5.setCell ⟨g, r a, none⟩ (.int .i64 ((r b : Nat) : Int))) (some g) := grown_trans R.gr (grown_set _ _ _ _)
  have hd : wr.grownBy (w5.setCell ⟨g, r a, none⟩ (.int .i64 ((r b : Nat) : Int))) (some g) := ⟨hgr.os, hgr.tape, hgr.output, hgr.size, hgr.block⟩
  refine ⟨_, d', _, hF, ?_, h.box.grown hd (by simp), ?_, h.hg, Nat.le_trans h.hz hd.size, ?_, Lib.hid ?_⟩
  · rw [← zN_set]; exact R.row.set_ _ _
  · refine h.own.kept hd ?_
    cases hv : v.ownBlock with
    | none => exact .inl rfl
    | some x =>
      right
      intro e
      have := (h.own.lt x hv).1
      injection e with e
      omega
  · exact h.bel.grown hd h.bel.size (fun k e => by cases e; exact h.hg)
  · have := Kp.Lk.next hkl h.lk.out
    rw [← hak, ← hbk] at this
    exact this

/-- Join's world behind the links: the labels -/
structure LbInv (w wr : World) (p : List Int) (C g gl k : Nat) (r d : Nat → Nat) (L : List Nat) : Prop where
  fo : Kp.Fo L C r d
  row : IBlk wr g (zN L)
  box : Box wr (g + 1) (.slice (some ⟨g, 0, none⟩) C C)
  lab : IBlk wr gl (Kp.fillZ (fun i => ((r (Kp.lab p i).toNat : Nat) : Int)) p.length k)
  hgl : g + 1 < gl
  hg : w.heap.size ≤ g
  bel : Below w.heap.size w wr
theorem LbInv.next {w wr w4 : World} {p : List Int} {C g gl k a : Nat} {r d : Nat → Nat} {L L4 : List Nat} (h : LbInv w wr p C g gl k r d L) (R : Rt wr w4 g C r d L4) (hk : k < p.length) (ha : a = (Kp.lab p k).toNat) :
    LbInv w (w4.setCell ⟨gl, k, none⟩ (.int .i64 ((r a : Nat) : Int))) p C g gl (k + 1) r d L4 := by
  have hgl := h.hgl
  have hl := h.lab.grown R.gr (fun e => by injection e with e; omega)
  refine ⟨R.fo, R.row.far (by simp; omega) _, ?_, ?_, h.hgl, h.hg, ?_⟩
  · exact (h.box.grown R.gr (by simp)).grown (grown_set w4 gl k _) (by simp; omega)
  · rw [← Kp.fillZ_set _ _ _ hk, ← ha]
    exact hl.set_ k _
  · have hz := h.bel.size
    have hg := h.hg
    exact (h.bel.grown R.gr hz (fun k e => by cases e; exact hg)).setCell (by simp; omega) _

theorem range_fill (C : Nat) : Kp.fillZ (fun i => (i : Int)) C C = zN (List.range C) := by
  unfold Kp.fillZ zN
  exact List.map_congr_left fun i hi => if_pos (List.mem_range.1 hi)

set_option maxRecDepth 100000 in
set_option maxHeartbeats 4000000 in
theorem bjoin_ok (A : Option Addr) (ca : Nat) (p : List Int) (B : Option Addr) (cb : Nat) (q : List Int) (w : World) (ha : Ints w w.heap.size A p) (hb : Ints w w.heap.size B q) (hlp : p.length ≤ 1000000) (hlq : q.length ≤ 1000000) (hc : Kp.code p q = 0) :
    Calls Tryd.prog 41 #[.slice A p.length ca, .slice B q.length cb] w (PairRes (Kp.IsJoin p q) w) := by
  obtain ⟨i0, hi, hz0, hz1, hz2⟩ := info_parts infoInt
  obtain ⟨hvp, hvq, hpq⟩ := Kp.code_zero hc
  have hcnt : Hid (Kp.cnt0 p = Kp.cntL p) := Lib.hid (by unfold Kp.cnt0; rw [hvp]; rfl)
  have hcp := Kp.cntL_le p
  have hpb : Hid (∀ i, i < p.length → 0 ≤ Kp.lab p i ∧ Kp.lab p i < (Kp.cntL p : Int)) := Lib.hid (fun i hi => Kp.valid_lt hvp hi)
  have hqv : Hid (∀ i, i < q.length → Kp.lab q i = (Kp.cls (Kp.lab q) i : Int)) := Lib.hid (Kp.vB_iff.1 hvq)
  have hlk0 : Hid (Kp.Lk p q 0 id) := Lib.hid (Kp.Lk.start hvp)
  have hL := Lib.hid hpq
  have hC := Lib.hid hc
  clear hc hvp hvq hpq
  go_enter Tryd.func41, Tryd.ntmps41
  go_wp2_with fail
  refine (bcheck_any A ca p B cb q _ ha hb hlp hlq).mono ?_
  rintro e w' ⟨rfl, rfl⟩
  rw [hC.out]
  go_wp2_with fail
  refine (bcount_any A ca p _ ha hlp).mono ?_
  rintro e w1 ⟨rfl, hB1⟩
  rw [hcnt.out]
  obtain ⟨C, hCC⟩ : ∃ C, Hid (Kp.cntL p = C) := ⟨_, Lib.hid rfl⟩
  rw [hCC.out] at hcp
  rw [hCC.out]
  have hmk := makeInts C (by omega)
  go_wp2_with fail
  -- loop 1
  have hB2 := (hB1.alloc hB1.size (.cells (zcells (List.replicate C 0)) 3))
  have hrow0 : IBlk ((w1.alloc (.cells (zcells (List.replicate C 0)) 3)).alloc (.cells #[.slice (some ⟨w1.heap.size, 0, none⟩) C C] 33)) w1.heap.size (Kp.fillZ (fun i => (i : Int)) C 0) := by
    rw [Kp.fillZ_zero]; exact (IBlk.new_ _ _).alloc _
  have hbox0 : Box ((w1.alloc (.cells (zcells (List.replicate C 0)) 3)).alloc (.cells #[.slice (some ⟨w1.heap.size, 0, none⟩) C C] 33)) (w1.heap.size + 1) (.slice (some ⟨w1.heap.size, 0, none⟩) C C) := by
    have := heap_alloc_new (w1.alloc (.cells (zcells (List.replicate C 0)) 3)) (.cells #[.slice (some ⟨w1.heap.size, 0, none⟩) C C] 33)
    unfold Box
    simpa using this
  have hbel0 := hB2.alloc (o := .cells #[.slice (some ⟨w1.heap.size, 0, none⟩) C C] 33) (by simp; have := hB1.size; omega)
  have hsz0 : w1.heap.size + 2 ≤ ((w1.alloc (.cells (zcells (List.replicate C 0)) 3)).alloc (.cells #[.slice (some ⟨w1.heap.size, 0, none⟩) C C] 33)).heap.size := by simp
  have hwg := hB1.size
  clear hmk hB1 hB2
  revert hrow0 hbox0 hbel0 hsz0
  generalize ((w1.alloc (.cells (zcells (List.replicate C 0)) 3)).alloc (.cells #[.slice (some ⟨w1.heap.size, 0, none⟩) C C] 33)) = w2
  generalize w1.heap.size = g at *
  intro hrow0 hbox0 hbel0 hsz0
  have hCm : C ≤ 1000000 := by omega
  go_loopw [27] (fun iv wr => ∃ k : Nat, k ≤ C ∧ iv = .int .i64 k ∧ IBlk wr g (Kp.fillZ (fun i => (i : Int)) C k) ∧ Box wr (g + 1) (.slice (some ⟨g, 0, none⟩) C C) ∧ Below w.heap.size w wr ∧ g + 2 ≤ wr.heap.size) (fun iv _ => C - (intOf iv).toNat)
  case atStart => exact ⟨0, Nat.zero_le _, rfl, hrow0, hbox0, hbel0, hsz0⟩
  case round =>
    obtain ⟨k, hk, rfl, hrow, hbox, hbel, hsz⟩ := hrel
    clear hrow0 hbox0 hbel0 hsz0
    have cb := hbox.cell
    by_cases hlt : k < C
    · have hcg := hrow.cell (k := k) (by rw [Kp.fillZ_length]; exact hlt)
      have hfg := hrow.frozen k
      have hset := hrow.set_ k (k : Int)
      rw [show (k : Int) = (fun i : Nat => (i : Int)) k from rfl, Kp.fillZ_set _ _ _ hlt] at hset
      have hbox' := hbox.grown (grown_set wr g k (.int .i64 (k : Int))) (by simp)
      have hbel' := hbel.setCell (p := ⟨g, k, none⟩) hwg (.int .i64 (k : Int))
      go_wp2_with fail
      go_roundw
      case rel => exact ⟨k + 1, by omega, by go_num, hset, hbox', hbel', by simpa [World.setCell] using hsz⟩
      case measure => simp [intOf]; omega
    · obtain rfl : C = k := by omega
      rw [range_fill] at hrow
      have J0 : JnInv w wr p q C g 0 0 (.slice none 0 0) id (fun _ => 0) (List.range C) := ⟨Kp.Fo.start C, hrow, hbox, World.ownsRow_nil _ _ _ _, hwg, hsz, hbel, hlk0⟩
      clear hrow hbox hbel hsz cb hlk0 hlt hk
      go_wp2_with fail
      go_loopw [10, 38] (fun fv iv wr => ∃ (k : Nat) (r d : Nat → Nat) (L : List Nat), k ≤ q.length ∧ iv = .int .i64 k ∧ JnInv w wr p q C g k k fv r d L) (fun _ iv _ => q.length - (intOf iv).toNat)
      case atStart => exact ⟨0, _, _, _, Nat.zero_le _, rfl, J0⟩
      case round =>
        obtain ⟨k, r, d, L, hk, rfl, J⟩ := hrel
        clear J0
        by_cases hlt : k < q.length
        · obtain ⟨b2, off2, x, rfl, hbb2, hc2, hx⟩ := (hb.below J.bel).at_ hlt
          have hkp : k < p.length := by rw [hL.out]; exact hlt
          obtain ⟨b1, off1, y, rfl, hbb1, hc1, hy⟩ := (ha.below J.bel).at_ hkp
          have hyr := hpb.out k hkp
          rw [hCC.out] at hyr
          obtain ⟨a, haN⟩ : ∃ a : Nat, y = (a : Int) := ⟨(Kp.lab p k).toNat, by have h2 : y = Kp.lab p k := hy.out.1; omega⟩
          have hak : Hid (a = (Kp.lab p k).toNat) := Lib.hid (by have h2 : y = Kp.lab p k := hy.out.1; omega)
          have haC : a < C := by have h2 : y = Kp.lab p k := hy.out.1; omega
          subst haN
          have hfl : Kp.first (Kp.lab q) k < p.length := by have := Kp.first_le (Kp.lab q) k; omega
          have hbr := hpb.out _ hfl
          rw [hCC.out] at hbr
          obtain ⟨b, hbN⟩ : ∃ b : Nat, Hid (Kp.lab p (Kp.first (Kp.lab q) k) = (b : Int)) := ⟨(Kp.lab p (Kp.first (Kp.lab q) k)).toNat, Lib.hid (by omega)⟩
          have hbk : Hid (b = (Kp.lab p (Kp.first (Kp.lab q) k)).toNat) := Lib.hid (by have := hbN.out; omega)
          have hbC : b < C := by have := hbN.out; omega
          obtain ⟨xc, hxc⟩ : ∃ xc, Hid (Kp.cls (Kp.lab q) k = xc) := ⟨_, Lib.hid rfl⟩
          obtain rfl : x = (xc : Int) := by have h2 : x = Kp.lab q k := hx.out.1; rw [h2, hqv.out k hlt, hxc.out]
          have hra := (J.fo.fix a haC).1
          have hraZ : ((r a : Nat) : Int) < (C : Int) := by omega
          have hSG : Hid (some (g + 1) ≠ some g) := Lib.hid (by simp)
          have hNG : Hid (g + 1 ≠ g) := Lib.hid (by omega)
          have hb1g : b1 ≠ g := by have := J.hg; omega
          have hfn := Kp.fsL_get p q (k + 1) k (Nat.lt_succ_self k)
          rw [hxc.out, hbN.out] at hfn
          have hFN := Lib.hid hfn
          have hfl1 := Kp.fsL_length p q k
          have hrk := Kp.rank_le (Kp.lab q) k
          obtain ⟨rk, hrk0⟩ : ∃ rk, Hid (Kp.rank (Kp.lab q) k = rk) := ⟨_, Lib.hid rfl⟩
          rw [hrk0.out] at hfl1 hrk
          have hFL := Lib.hid hfl1
          clear hfn hfl1 hyr hbr hfl
          cases hn : Kp.newB (Kp.lab q) k with
          | true =>
            have hxr : xc = rk := by rw [← hxc.out, ← hrk0.out, Kp.cls_new hn]
            have hN := Lib.hid hn
            have ho := J.own
            rw [hFL.out] at ho
            subst hxr
            obtain ⟨A', c', rfl⟩ := own_slice ho
            have hap : Hid (Kp.lab p k = (a : Int)) := Lib.hid hy.out.1.symm
            clear hn
            go_wp2_with (at_builtin; refine wpList_append_own _ rfl _ _ 33 rfl (g + 2) 3 i0 (.int .i64 0) 1 8 Tryd.underlying33 hi hz0 hz1 hz2 rfl (by decide) _ _ _ rfl (ho.alloc _) ⟨wr.heap.size, 0, none⟩ 1 1 [.int .i64 (a : Int)] rfl rfl ?c1 ?c2 ?c3 ?c4 ?c5 ?_)
            case c1 => exact cell_one_new _ _ _
            case c2 => intro u hu; simp at hu; subst hu; rfl
            case c3 => unfold maxLen; omega
            case c4 => omega
            case c5 => have := J.hz; simp; omega
            intro v' w3 hown' hgrow _
            have J3 := JnInv.grown J hN.out (by rw [hFL.out, hap.out]; exact hown') hgrow
            clear hown' hgrow J ho hc1 hc2
            have hc1 := ((ha.below J3.bel).at_ hkp)
            obtain ⟨_, _, y2, hA, _, hc1, hy2⟩ := hc1
            cases hA
            obtain rfl : y2 = (a : Int) := by rw [hy2.out.1]; exact hap.out
            have ho3 := J3.own
            obtain ⟨n1, hn1⟩ : ∃ n1, Hid (xc + 1 = n1) := ⟨_, Lib.hid rfl⟩
            have hl3 : (Kp.fsL p q (k + 1)).length = n1 := by rw [Kp.fsL_new hN.out, List.length_append, hFL.out]; exact hn1.out
            have hxr2 : (xc : Int) < (n1 : Int) := by have := hn1.out; omega
            have hxr3 : xc < n1 := by omega
            rw [hl3] at ho3
            obtain ⟨gf, cap, rfl, hgf, _⟩ := ho3.form (by omega)
            have hcf := ho3.cellAt xc (by omega)
            have hcf2 : w3.cell? ⟨gf, xc, none⟩ = some (.int .i64 (b : Int)) := by
              rw [hcf]
              unfold zvals
              have hg2 := hFN.out
              rw [List.getD_eq_getElem?_getD, List.getElem?_eq_getElem (by rw [hl3]; omega)] at hg2
              rw [List.getElem?_map, List.getElem?_eq_getElem (by rw [hl3]; omega)]
              simp only [Option.getD_some] at hg2
              rw [hg2]; rfl
            have hgfg : gf ≠ g := by omega
            clear hcf ho3
            have Rd : Rt w3.drew w3.drew g C r d L := ⟨J3.fo, J3.row.drew, grown_refl _ _⟩
            have hbx : Box w3.drew (g + 1) (.slice (some ⟨g, 0, none⟩) C C) := J3.box
            have cp0 : w3.drew.cell? ⟨b1, off1 + k, none⟩ = some (.int .i64 (a : Int)) := hc1
            have cf0 : w3.drew.cell? ⟨gf, xc, none⟩ = some (.int .i64 (b : Int)) := hcf2
            have cbx := hbx.cell
            have hcg := Rd.cell hra
            have hfg := Rd.row.frozen (r a)
            have H0 := Lib.hid J3
            have R := Rd
            clear Rd J3 hc1 hcf2
            go_wp2_with fail
            go_region_held3 (fun w' => w'.cell? ⟨g + 1, 0, none⟩ = some (.slice (some ⟨g, 0, none⟩) C C) ∧ w'.cell? ⟨b1, off1 + k, none⟩ = some (.int .i64 (a : Int)) ∧ w'.cell? ⟨gf, xc, none⟩ = some (.int .i64 (b : Int)))
              (first | exact ⟨(hbx.grown R.gr hSG.out).cell, grown_cell R.gr cp0 hb1g, grown_cell R.gr cf0 hgfg⟩ | exact ⟨(hbx.grown (grown_trans R.gr (grown_set _ _ _ _)) hSG.out).cell, grown_cell (grown_trans R.gr (grown_set _ _ _ _)) cp0 hb1g, grown_cell (grown_trans R.gr (grown_set _ _ _ _)) cf0 hgfg⟩)
              (first
                | (go_at_call 66; with_reducible refine (root_any (g + 1) g C r d _ a _ (hbx.grown R.gr hSG.out) R.row R.fo hNG.out haC hCm).mono ?_; rintro e w4 ⟨rfl, L4, R4⟩; replace R := (⟨R4.fo, R4.row, grown_trans R.gr R4.gr⟩ : Rt w3.drew w4 g C r d L4); clear R4; replace hcg := R.cell hra; replace hfg := R.row.frozen (r a))
                | (go_at_call 66; with_reducible refine (root_any (g + 1) g C r d _ b _ (hbx.grown R.gr hSG.out) R.row R.fo hNG.out hbC hCm).mono ?_; rintro e w4 ⟨rfl, L4, R4⟩; replace R := (⟨R4.fo, R4.row, grown_trans R.gr R4.gr⟩ : Rt w3.drew w4 g C r d L4); clear R4; replace hcg := R.cell hra; replace hfg := R.row.frozen (r a)))
            all_goals
              have J := JnInv.hung H0.out R haC hbC hak.out hbk.out hkp
              obtain ⟨r', d', L', J⟩ := J
              go_wp2_with fail
              go_roundw
              case rel => exact ⟨k + 1, r', d', L', by omega, by go_num, J⟩
              case measure => simp [intOf]; omega
          | false =>
            have hlt2 : xc < rk := by rw [← hxc.out, ← hrk0.out]; exact Kp.cls_old hn
            have hne1 : ((xc : Int) == (rk : Int)) = false := by simp; omega
            have hne2 : (xc == rk) = false := by simp; omega
            have J3 := JnInv.old J hn
            have hl3 : (Kp.fsL p q (k + 1)).length = rk := by rw [Kp.fsL_old hn, hFL.out]
            clear hn J
            have ho3 := J3.own
            rw [hl3] at ho3
            obtain ⟨gf, cap, rfl, hgf, _⟩ := ho3.form (by omega)
            have hcf := ho3.cellAt xc (by omega)
            have hcf2 : wr.cell? ⟨gf, xc, none⟩ = some (.int .i64 (b : Int)) := by
              rw [hcf]
              unfold zvals
              have hg2 := hFN.out
              rw [List.getD_eq_getElem?_getD, List.getElem?_eq_getElem (by rw [hl3]; omega)] at hg2
              rw [List.getElem?_map, List.getElem?_eq_getElem (by rw [hl3]; omega)]
              simp only [Option.getD_some] at hg2
              rw [hg2]; rfl
            have hgfg : gf ≠ g := by omega
            have hxr2 : (xc : Int) < (rk : Int) := by omega
            clear hcf ho3
            have Rd : Rt wr.drew wr.drew g C r d L := ⟨J3.fo, J3.row.drew, grown_refl _ _⟩
            have hbx : Box wr.drew (g + 1) (.slice (some ⟨g, 0, none⟩) C C) := J3.box
            have cp0 : wr.drew.cell? ⟨b1, off1 + k, none⟩ = some (.int .i64 (a : Int)) := hc1
            have cf0 : wr.drew.cell? ⟨gf, xc, none⟩ = some (.int .i64 (b : Int)) := hcf2
            have cbx := hbx.cell
            have hcg := Rd.cell hra
            have hfg := Rd.row.frozen (r a)
            have H0 := Lib.hid J3
            have R := Rd
            clear Rd J3 hc1 hcf2
            go_wp2_with fail
            go_region_held3 (fun w' => w'.cell? ⟨g + 1, 0, none⟩ = some (.slice (some ⟨g, 0, none⟩) C C) ∧ w'.cell? ⟨b1, off1 + k, none⟩ = some (.int .i64 (a : Int)) ∧ w'.cell? ⟨gf, xc, none⟩ = some (.int .i64 (b : Int)))
              (first | exact ⟨(hbx.grown R.gr hSG.out).cell, grown_cell R.gr cp0 hb1g, grown_cell R.gr cf0 hgfg⟩ | exact ⟨(hbx.grown (grown_trans R.gr (grown_set _ _ _ _)) hSG.out).cell, grown_cell (grown_trans R.gr (grown_set _ _ _ _)) cp0 hb1g, grown_cell (grown_trans R.gr (grown_set _ _ _ _)) cf0 hgfg⟩)
              (first
                | (go_at_call 66; with_reducible refine (root_any (g + 1) g C r d _ a _ (hbx.grown R.gr hSG.out) R.row R.fo hNG.out haC hCm).mono ?_; rintro e w4 ⟨rfl, L4, R4⟩; replace R := (⟨R4.fo, R4.row, grown_trans R.gr R4.gr⟩ : Rt wr.drew w4 g C r d L4); clear R4; replace hcg := R.cell hra; replace hfg := R.row.frozen (r a))
                | (go_at_call 66; with_reducible refine (root_any (g + 1) g C r d _ b _ (hbx.grown R.gr hSG.out) R.row R.fo hNG.out hbC hCm).mono ?_; rintro e w4 ⟨rfl, L4, R4⟩; replace R := (⟨R4.fo, R4.row, grown_trans R.gr R4.gr⟩ : Rt wr.drew w4 g C r d L4); clear R4; replace hcg := R.cell hra; replace hfg := R.row.frozen (r a)))
            all_goals
              have J := JnInv.hung H0.out R haC hbC hak.out hbk.out hkp
              obtain ⟨r', d', L', J⟩ := J
              go_wp2_with fail
              go_roundw
              case rel => exact ⟨k + 1, r', d', L', by omega, by go_num, J⟩
              case measure => simp [intOf]; omega
        · obtain rfl : k = q.length := by omega
          have hlk : Hid (Kp.Lk p q p.length r) := Lib.hid (by rw [hL.out]; exact J.lk.out)
          have hmk := makeInts p.length hlp
          have hbd0 : Hid (∀ i, i < p.length → r (Kp.lab p i).toNat < C) := Lib.hid (fun i hi => (J.fo.fix _ (by have := hpb.out i hi; rw [hCC.out] at this; omega)).1)
          have K0 : LbInv w (wr.alloc (.cells (zcells (List.replicate p.length 0)) 3)) p C g wr.heap.size 0 r d L :=
            ⟨J.fo, J.row.alloc _, (Below.heap_alloc wr _ (g + 1) J.box.lt).trans J.box, by rw [Kp.fillZ_zero]; exact IBlk.new_ _ _, by have := J.hz; omega, J.hg, J.bel.alloc J.bel.size _⟩
          clear J hlt hk
          go_wp2_with fail
          clear hmk
          revert K0
          generalize hgl : wr.heap.size = gl
          generalize wr.alloc (.cells (zcells (List.replicate p.length 0)) 3) = w6
          intro K0
          go_loopw [74] (fun iv wr => ∃ (k : Nat) (L : List Nat), k ≤ p.length ∧ iv = .int .i64 k ∧ LbInv w wr p C g gl k r d L) (fun iv _ => p.length - (intOf iv).toNat)
          case atStart => exact ⟨0, _, Nat.zero_le _, rfl, K0⟩
          case round =>
            obtain ⟨k, L, hk, rfl, K⟩ := hrel
            clear K0
            by_cases hlt : k < p.length
            · obtain ⟨b1, off1, y, rfl, hbb1, hc1, hy⟩ := (ha.below K.bel).at_ hlt
              have hyr := hpb.out k hlt
              rw [hCC.out] at hyr
              obtain ⟨a, haN⟩ : ∃ a : Nat, y = (a : Int) := ⟨(Kp.lab p k).toNat, by have h2 : y = Kp.lab p k := hy.out.1; omega⟩
              have hak : Hid (a = (Kp.lab p k).toNat) := Lib.hid (by have h2 : y = Kp.lab p k := hy.out.1; omega)
              have haC : a < C := by have h2 : y = Kp.lab p k := hy.out.1; omega
              subst haN
              clear hyr
              go_wp2_with fail
              refine (root_any (g + 1) g C r d L a _ K.box K.row K.fo (by omega) haC hCm).mono ?_
              rintro e w4 ⟨rfl, L4, R4⟩
              have hl := K.lab.grown R4.gr (fun e => by injection e with e; have := K.hgl; omega)
              have hcl := hl.cell (k := k) (by rw [Kp.fillZ_length]; exact hlt)
              have hfl := hl.frozen k
              have K4 := LbInv.next K R4 hlt hak.out
              clear hl R4 hc1
              go_wp2_with fail
              go_roundw
              case rel => exact ⟨k + 1, L4, by omega, by go_num, K4⟩
              case measure => simp [intOf]; omega
            · obtain rfl : k = p.length := by omega
              go_wp2_with fail
              have hI : Ints wr wr.heap.size (some ⟨gl, 0, none⟩) (Kp.fillZ (fun i => ((r (Kp.lab p i).toNat : Nat) : Int)) p.length p.length) := K.lab.ints K.lab.lt (fun x hx => by
                have := Kp.fillZ_bd _ _ _ 1000000 (by omega) (fun i hi => by have := hbd0.out i hi; omega) x hx
                omega)
              have hlen : (Kp.fillZ (fun i => ((r (Kp.lab p i).toNat : Nat) : Int)) p.length p.length).length = p.length := Kp.fillZ_length _ _ _
              have hof := of_any (some ⟨gl, 0, none⟩) p.length _ _ hI (by omega)
              rw [hlen, Kp.ofL_fillZ] at hof
              refine hof.mono ?_
              rintro e w7 ⟨A3, c3, rfl, hI3, hB3⟩
              go_wp2_with fail
              go_ret2
              exact ⟨_, A3, c3, hlk.out.join, rfl, hI3, K.bel.trans (hB3.mono K.bel.size)⟩
end Go.Proofs.YtcicejmahlobhaaDoor
