/- Walks: divideWords. -/
import Derived.Test.YtmhfdmidaheoeaaDoorD4
import Derived.Test.YtmhfdmidaheoeaaDoorShelf
import Derived.Lib.ItoaNum
namespace Go.Proofs.YtmhfdmidaheoeaaDoor
open Go.RowKit
set_option linter.unusedVariables false

/-- quotient and remainder, in canonical form -/
def DivRes (q r : Nat) (w : World) (e : Ending) (w' : World) : Prop :=
  ∃ A c B d, e = .returned (.tuple #[.slice A (Kn.dig q).length c, .slice B (Kn.dig r).length d]) ∧ Sl w' w'.heap.size A c (Kn.dig q) ∧ Sl w' w'.heap.size B d (Kn.dig r) ∧ Below w.heap.size w w'

/-- the leading zeros of a word -/
theorem lz_word (t : Nat) (h0 : 0 < t) (h : t < 4294967296) : ∃ s : Nat, s ≤ 31 ∧ 2147483648 ≤ t * 2 ^ s ∧ t * 2 ^ s < 4294967296 ∧ (32 - (Lib.bitLen ((t : Nat) : Int).toNat : Int)) = (s : Int) := by
  have h1 := Lib.bitLenAux_bounds 64 t (by omega) (by omega)
  have h2 := Any.bitLen_le32 (t : Int) (by omega) (by omega)
  rw [Int.toNat_natCast] at h2 ⊢
  obtain ⟨l, hl⟩ : ∃ l, l = Lib.bitLen t := ⟨_, rfl⟩
  have hl' : Lib.bitLenAux 64 t = l := hl.symm
  rw [hl'] at h1
  rw [← hl] at h2 ⊢
  have h3 : l ≤ 32 := by omega
  refine ⟨32 - l, by omega, ?_, ?_, by omega⟩
  · have : 2 ^ (l - 1) * 2 ^ (32 - l) = 2147483648 := by rw [← Nat.pow_add, show l - 1 + (32 - l) = 31 by omega]
    rw [← this]; exact Nat.mul_le_mul_right _ h1.2.1
  · have : 2 ^ l * 2 ^ (32 - l) = 4294967296 := by rw [← Nat.pow_add, show l + (32 - l) = 32 by omega]
    rw [← this]; exact Nat.mul_lt_mul_of_pos_right h1.2.2 (Nat.pow_pos (by decide))
theorem lz32 (t : Nat) (h0 : 0 < t) (h : t < 4294967296) : ∃ s : Nat, s ≤ 31 ∧ 2147483648 ≤ t * 2 ^ s ∧ t * 2 ^ s < 4294967296 ∧ ∀ w : World, Calls Tryd.prog 55 #[.int .u32 (t : Int)] w fun e w' => e = .returned (.int .i64 (s : Int)) ∧ w = w' := by
  obtain ⟨s, h1, h2, h3, h4⟩ := lz_word t h0 h
  exact ⟨s, h1, h2, h3, fun w => (Tryd.bits_LeadingZeros32 (t : Int) w (by omega) (by omega)).mono fun e w' ⟨he, hw⟩ => ⟨by rw [he, h4], hw.symm⟩⟩

/-- the three rows of a long division -/
structure Dw (w wr : World) (gd gr gq : Nat) (d vs qs : List Nat) (nd nr nq : Nat) : Prop where
  bd : Blk .u32 39 wr gd d
  br : Blk .u32 39 wr gr vs
  bq : Blk .u32 39 wr gq qs
  h1 : w.heap.size ≤ gd
  h2 : gd < gr
  h3 : gr < gq
  bel : Below w.heap.size w wr
  wd : Kn.Wd d
  wv : Kn.Wd vs
  wq : Kn.Wd qs
  ld : d.length = nd
  lv : vs.length = nr
  lq : qs.length = nq
section
variable {w wr wx : World} {gd gr gq nd nr nq : Nat} {d vs qs : List Nat}
theorem Dw.dsl (h : Dw w wr gd gr gq d vs qs nd nr nq) (k c : Nat) (hc : nd ≤ c) : Sl wr gr (some ⟨gd, 0, none⟩) c (d.take k) :=
  ⟨(h.bd.nums h.h2).take k, h.wd.take k, Nat.le_trans (List.length_take_le' _ _) (by rw [h.ld]; exact hc), fun e => by cases e⟩
theorem Dw.rsl (h : Dw w wr gd gr gq d vs qs nd nr nq) : Sl wr wr.heap.size (some ⟨gr, 0, none⟩) nr vs := ⟨h.br.nums h.br.lt, h.wv, Nat.le_of_eq h.lv, fun e => by cases e⟩
theorem Dw.qsl (h : Dw w wr gd gr gq d vs qs nd nr nq) : Sl wr wr.heap.size (some ⟨gq, 0, none⟩) nq qs := ⟨h.bq.nums h.bq.lt, h.wq, Nat.le_of_eq h.lq, fun e => by cases e⟩
theorem Dw.step (h : Dw w wr gd gr gq d vs qs nd nr nq) {pre us post : List Nat} {n k q : Nat} (hw : Win wr wx gr pre us post n) (hwd : Kn.Wd (pre ++ us ++ post)) (hl : (pre ++ us ++ post).length = nr) (hq : q < 4294967296) :
    Dw w (wx.setCell ⟨gq, k, none⟩ (.int .u32 (q : Int))) gd gr gq d (pre ++ us ++ post) (qs.set k q) nd nr nq := by
  have h1 := h.h1
  have h2 := h.h2
  have h3 := h.h3
  have hs := h.bel.size
  refine ⟨(h.bd.but hw.gr (by omega)).far (by show gd ≠ gq; omega) _, hw.row.far (by show gr ≠ gq; omega) _, (h.bq.but hw.gr (by omega)).set_ k q, h1, h2, h3, ?_, h.wd, hwd, h.wq.set k hq, h.ld, hl, by rw [List.length_set]; exact h.lq⟩
  exact (h.bel.grown hw.gr (by omega) (fun k e => by injection e with e; omega)).setCell (p := ⟨gq, k, none⟩) (by show w.heap.size ≤ gq; omega) _
end
theorem Sl.one_new (w : World) (x : Nat) (hx : x < 4294967296) : Sl (w.alloc (.cells #[.int .u32 (x : Int)] 39)) (w.heap.size + 1) (some ⟨w.heap.size, 0, none⟩) 1 [x] :=
  ⟨(Blk.new_ .u32 39 w [x]).nums (by omega), Kn.Wd.cons hx Kn.Wd.nil, Nat.le_refl _, fun e => by cases e⟩

set_option maxRecDepth 100000 in
set_option maxHeartbeats 4000000 in
theorem divideWords_any (N M : Nat) (A : Option Addr) (ca : Nat) (B : Option Addr) (cb : Nat) (w : World) (ha : Sl w w.heap.size A ca (Kn.dig N)) (hb : Sl w w.heap.size B cb (Kn.dig M)) (hM : 0 < M) (hla : (Kn.dig N).length ≤ 999999) (hlb : (Kn.dig M).length ≤ 999999) :
    Calls Tryd.prog 26 #[.slice A (Kn.dig N).length ca, .slice B (Kn.dig M).length cb] w (DivRes (N / M) (N % M) w) := by
  have hlp := Kn.dig_len_pos.2 hM
  rcases Nat.lt_or_ge N M with hNM | hNM
  · have hc : Hid (Kn.cmp N M = -1) := Lib.hid (Kn.cmp_lt hNM)
    have hq0 : Hid (N / M = 0 ∧ N % M = N) := Lib.hid ⟨Nat.div_eq_of_lt hNM, Nat.mod_eq_of_lt hNM⟩
    rw [hq0.out.1, hq0.out.2]
    have HB := Lib.hid hlb
    have HL := Lib.hid hla
    clear hlp hNM hla hlb
    go_enter Tryd.func26, Tryd.ntmps26
    go_wp2_with fail
    refine (compareWords_any A ca N B cb M w _ ha hb (by have := HL.out; omega) (by have := HB.out; omega)).mono ?_
    rintro e w1 ⟨rfl, q, rfl⟩
    rw [hc.out]
    go_wp2_with fail
    refine (clone_any A ca _ (w.drewN q) (ha.drewN q) (by have := HL.out; omega)).mono ?_
    rintro e w2 ⟨A2, c2, rfl, hS, hb2⟩
    go_wp2_with fail
    go_ret2
    refine ⟨none, 0, A2, c2, by rw [Kn.dig_zero]; rfl, by rw [Kn.dig_zero]; exact Sl.nil _ _, hS, (bDrew (Below.refl _ _) q).trans (hb2.mono (Nat.le_refl _))⟩
  · rcases Decidable.em ((Kn.dig M).length = 1) with h1 | h1
    · have hgc : Hid (decide (Kn.cmp N M < 0) = false) := Lib.hid (by
        rcases Nat.lt_or_ge M N with h | h
        · rw [Kn.cmp_gt h]; rfl
        · rw [show N = M by omega, Kn.cmp_self]; rfl)
      obtain ⟨cm, hcm⟩ : ∃ cm, Hid (cm = Kn.cmp N M) := ⟨_, Lib.hid rfl⟩
      rw [← hcm.out] at hgc
      have gc := hgc.out
      obtain ⟨b1, o1, x, rfl, hb1, hc1, hx, hxl⟩ := hb.word (k := 0) (by omega)
      have hxM : Hid (x = M) := Lib.hid (by
        have h2 := Kn.val_dig M
        obtain ⟨y, hy⟩ : ∃ y, Kn.dig M = [y] := List.length_eq_one_iff.1 h1
        rw [hy] at h2 hx
        rw [Kn.val_one] at h2
        rw [hx.out, ← h2]; rfl)
      have HM1 := Lib.hid h1
      rw [Nat.add_zero] at hc1
      have HA := Lib.hid (fun W (h : Sl W W.heap.size A ca (Kn.dig N)) => divideByWord_any A ca (Kn.dig N) x W h (by omega) (by rw [hxM.out]; exact hM) hxl)
      have HCW := Lib.hid (fun W (ha : Sl W W.heap.size A ca (Kn.dig N)) (hb : Sl W W.heap.size (some ⟨b1, o1, none⟩) cb (Kn.dig M)) => compareWords_any A ca N (some ⟨b1, o1, none⟩) cb M W _ ha hb (by omega) (by omega))
      rw [h1]
      rw [h1] at HCW
      obtain ⟨r, hr⟩ : ∃ r, Hid (r = N % M) := ⟨_, Lib.hid rfl⟩
      obtain ⟨Q, hQ⟩ : ∃ r, Hid (r = N / M) := ⟨_, Lib.hid rfl⟩
      have hrl : r < 4294967296 := by rw [hr.out]; have := Nat.mod_lt N hM; have := hxM.out; omega
      rw [← hr.out, ← hQ.out]
      have HL := Lib.hid hla
      clear h1 hlp hlb hNM hla gc
      go_enter Tryd.func26, Tryd.ntmps26
      go_wp2_with fail
      refine (HCW.out w ha hb).mono ?_
      rintro e w1 ⟨rfl, q, rfl⟩
      rw [← hcm.out]
      have gc := hgc.out
      go_wp2_with fail
      refine (HA.out (w.drewN q) (ha.drewN q)).mono ?_
      rintro e w2 ⟨A2, c2, rfl, hS, hb2⟩
      rw [Kn.val_dig, hxM.out, ← hr.out, ← hQ.out]
      rw [Kn.val_dig, hxM.out, ← hQ.out] at hS
      have T1 := Sl.one_new w2 r hrl
      go_wp2_with fail
      refine (trim_any (some ⟨w2.heap.size, 0, none⟩) 1 [r] _ _ T1 (by simp)).mono ?_
      rintro e w3 ⟨rfl, rfl⟩
      rw [Kn.val_one]
      go_wp2_with fail
      go_ret2
      have T2 := T1.trim
      rw [Kn.val_one] at T2
      exact ⟨A2, c2, some ⟨w2.heap.size, 0, none⟩, 1, rfl, (hS.alloc (Nat.le_refl _) _).more (by simp), T2.more (by simp), ((bDrew (Below.refl _ _) q).trans (hb2.mono (Nat.le_refl _))).alloc (by have := hb2.size; simpa using this) _⟩
    · have hgc : Hid (decide (Kn.cmp N M < 0) = false) := Lib.hid (by
        rcases Nat.lt_or_ge M N with h | h
        · rw [Kn.cmp_gt h]; rfl
        · rw [show N = M by omega, Kn.cmp_self]; rfl)
      obtain ⟨cm, hcm⟩ : ∃ cm, Hid (cm = Kn.cmp N M) := ⟨_, Lib.hid rfl⟩
      rw [← hcm.out] at hgc
      obtain ⟨n, hn⟩ : ∃ n, Hid (n = (Kn.dig M).length) := ⟨_, Lib.hid rfl⟩
      obtain ⟨l, hl⟩ : ∃ n, Hid (n = (Kn.dig N).length) := ⟨_, Lib.hid rfl⟩
      have hn2 : 2 ≤ n := by rw [hn.out]; omega
      have hnl : n ≤ l := by
        rw [hn.out, hl.out]
        rw [← Nat.not_lt]
        intro h
        have := Kn.dig_mono h
        omega
      obtain ⟨b1, o1, x, rfl, hb1, hc1, hx, hxl⟩ := hb.word (k := n - 1) (by rw [← hn.out]; omega)
      have hx0 : 0 < x := by
        rw [hx.out, hn.out]
        have := Kn.dig_last hM
        omega
      obtain ⟨s, hs, hs1, hs2, HLZ⟩ := lz32 x hx0 hxl
      have HZ := Lib.hid HLZ
      clear HLZ
      have HCW := Lib.hid (fun W (ha : Sl W W.heap.size A ca (Kn.dig N)) (hb : Sl W W.heap.size (some ⟨b1, o1, none⟩) cb (Kn.dig M)) => compareWords_any A ca N (some ⟨b1, o1, none⟩) cb M W _ ha hb (by omega) (by omega))
      have HUB := Lib.hid (fun W (h : Sl W W.heap.size (some ⟨b1, o1, none⟩) cb (Kn.dig M)) => shiftUp_any (some ⟨b1, o1, none⟩) cb (Kn.dig M) s W h (by omega) hs)
      have HUA := Lib.hid (fun W (h : Sl W W.heap.size A ca (Kn.dig N)) => shiftUp_any A ca (Kn.dig N) s W h (by omega) hs)
      rw [← hn.out] at HCW HUB ⊢
      rw [← hl.out] at HCW HUA ⊢
      rw [Kn.val_dig] at HUA HUB
      have hb3 : l ≤ 999999 := by rw [hl.out]; exact hla
      have e1 : ((n : Int) - 1).toNat = n - 1 := by omega
      have e2 : (0 : Int) ≤ (n : Int) - 1 := by omega
      have g1 : ((n : Int) == 1) = false := by rw [beq_eq_false_iff_ne]; omega
      have HDI := Lib.hid (Kn.shiftdiv_setup (N := N) (M := M) (s := s) (by rw [← hn.out]; exact hn2) (by rw [← hn.out, ← hx.out]; exact hs1) (by rw [← hn.out, ← hx.out]; exact hs2))
      have S1 := Lib.hid hs1
      have S2 := Lib.hid hs2
      clear hs1 hs2 h1 hlp hlb hNM hla
      go_enter Tryd.func26, Tryd.ntmps26
      go_wp2_with fail
      refine (HCW.out w ha hb).mono ?_
      rintro e w1 ⟨rfl, q, rfl⟩
      rw [← hcm.out]
      have gc := hgc.out
      replace ha : Sl (w.drewN q) (w.drewN q).heap.size A ca (Kn.dig N) := ha.drewN q
      replace hb : Sl (w.drewN q) (w.drewN q).heap.size (some ⟨b1, o1, none⟩) cb (Kn.dig M) := hb.drewN q
      have bel := bDrew (Below.refl w.heap.size w) q
      have hc1' : (w.drewN q).cell? ⟨b1, o1 + (n - 1), none⟩ = some (.int .u32 (x : Int)) := hc1
      clear hc1
      revert ha hb bel hc1'
      generalize w.drewN q = w2
      intro ha hb bel hc1
      go_wp2_with fail
      refine (HZ.out _).mono ?_
      rintro e w3 ⟨rfl, rfl⟩
      go_wp2_with fail
      refine (HUB.out _ hb).mono ?_
      rintro e w3 ⟨gd, d, rfl, Fd, hvd⟩
      have HVD := Lib.hid hvd
      clear hvd hc1
      have hgd := Fd.row.lt
      replace ha := ha.at_ Fd.bel (Nat.le_refl _)
      go_wp2_with fail
      refine (HUA.out _ ha).mono ?_
      rintro e w4 ⟨gr, vs0, rfl, Fr, hvr⟩
      have HVR := Lib.hid hvr
      clear hvr
      obtain ⟨mq, hmq⟩ : ∃ m, m = l - n + 1 := ⟨_, rfl⟩
      have hmk := makeU32 mq (by omega) (((l : Int) - (n : Int)) + 1) (by omega)
      have e3 : (((l : Int) - (n : Int)) + 1).toNat = mq := by omega
      have hml : mq + n = l + 1 := by omega
      have HMQ := Lib.hid hmq
      clear hmq
      go_wp2_with fail
      have hgr := Fr.hg
      have hgr2 := Fr.row.lt
      have hwd := Fd.hg
      have hb2 := bel.size
      have D0 : Dw w (w4.alloc (.cells (ncells .u32 (List.replicate mq 0)) 39)) gd gr w4.heap.size d vs0 (List.replicate mq 0) (n + 1) (l + 1) mq :=
        ⟨(Fd.row.below Fr.bel hgd).alloc _, Fr.row.alloc _, Blk.new_ _ _ _ _, by omega, by omega, by omega, ((bel.trans (Fd.bel.mono hb2)).trans (Fr.bel.mono (by have := Fd.bel.size; omega))).alloc (by omega) _, Fd.wd, Fr.wd, Kn.Wd.zeros _, Fd.len, Fr.len, by simp⟩
      obtain ⟨D, hD⟩ : ∃ D, Hid (D = M * 2 ^ s) := ⟨_, Lib.hid rfl⟩
      have HDL : Hid (D < Kn.pw n) := Lib.hid (by rw [hD.out, hn.out]; exact HDI.out.1)
      have HDT : Hid (Kn.val (d.take n) = D ∧ (d.take n).length = n ∧ 2147483648 ≤ (d.take n).getD (n - 1) 0) := Lib.hid (by
        have h1 : Kn.val (d.take n) = D := by rw [Kn.val_take_small Fd.len (by rw [HVD.out, ← hD.out]; exact HDL.out), HVD.out, hD.out]
        have h2 : (d.take n).length = n := by rw [List.length_take, Fd.len]; omega
        have h3 := HDI.out.2.1 (d.take n) (Fd.wd.take n)
        rw [← hn.out] at h3
        exact ⟨h1, h2, h3 h2 (by rw [h1, hD.out])⟩)
      have HI0 : Hid (N * 2 ^ s = Kn.val vs0 + D * (Kn.pw mq * Kn.val ((List.replicate mq 0).drop mq)) ∧ Kn.val (vs0.drop mq) < D) := Lib.hid (by
        refine ⟨by rw [List.drop_of_length_le (by simp), HVR.out]; simp [Kn.val], ?_⟩
        have h3 := HDI.out.2.2 vs0 Fr.wd
        rw [← hl.out, ← hn.out, ← hD.out, ← HMQ.out] at h3
        exact h3 Fr.len HVR.out hnl)
      revert D0
      generalize w4.alloc (.cells (ncells .u32 (List.replicate mq 0)) 39) = w5
      generalize w4.heap.size = gq
      intro D0
      clear hmk hgr hgr2 hwd hb2 hgd Fd Fr bel ha hb HUA HUB HCW HZ HDI
      go_loopw [11] (fun iv wr => ∃ k vs qs, k ≤ mq ∧ iv = .int .i64 ((k : Int) - 1) ∧ Dw w wr gd gr gq d vs qs (n + 1) (l + 1) mq ∧ Hid (N * 2 ^ s = Kn.val vs + D * (Kn.pw k * Kn.val (qs.drop k)) ∧ Kn.val (vs.drop k) < D)) (fun iv _ => (intOf iv + 1).toNat)
      case atStart => exact ⟨mq, vs0, _, Nat.le_refl _, rfl, D0, HI0⟩
      case round =>
        clear D0 HI0
        obtain ⟨k, vs, qs, hk, rfl, I, HI⟩ := hrel
        by_cases hk0 : k = 0
        · subst hk0
          have HF := Lib.hid (Kn.shift_end (n := N) (m := M) (s := s) (q := Kn.val qs) (r := Kn.val vs) hM (by
            have h := HI.out.1
            rw [List.drop_zero, Kn.pw_zero, Nat.one_mul] at h
            rw [← hD.out]; exact h) (by have := HI.out.2; rwa [List.drop_zero, hD.out] at this))
          have hlv := I.lv
          have hlq := I.lq
          have hTq := trim_any (some ⟨gq, 0, none⟩) mq qs wr _ I.qsl (by omega)
          rw [hlq] at hTq
          have hSd := shiftDown_any (some ⟨gr, 0, none⟩) (l + 1) vs s wr I.rsl (by omega) hs
          rw [hlv] at hSd
          have HTQ := Lib.hid hTq
          have HSD := Lib.hid hSd
          have QS := I.qsl.trim
          rw [HF.out.1] at QS
          have HLV := Lib.hid hlv
          clear hTq hSd hlv hlq
          go_wp2_with fail
          refine HTQ.out.mono ?_
          rintro e w6 ⟨rfl, rfl⟩
          go_wp2_with fail
          refine HSD.out.mono ?_
          rintro e w7 ⟨g7, us, rfl, F7, hv7⟩
          rw [HF.out.2] at hv7
          have hT7 := trim_any (some ⟨g7, 0, none⟩) (l + 1) us w7 _ F7.sl (by have := F7.len; omega)
          rw [F7.len, hv7] at hT7
          have HT7 := Lib.hid hT7
          have S7 := F7.sl.trim
          rw [hv7] at S7
          clear hT7 hv7
          go_wp2_with fail
          refine HT7.out.mono ?_
          rintro e w8 ⟨rfl, rfl⟩
          rw [HF.out.1]
          go_wp2_with fail
          go_ret2
          exact ⟨_, _, _, _, rfl, QS.at_ F7.bel (Nat.le_refl _), S7, I.bel.trans (F7.bel.mono I.bel.size)⟩
        · obtain ⟨j, rfl⟩ : ∃ j, k = j + 1 := ⟨k - 1, by omega⟩
          have e0 : ((j + 1 : Nat) : Int) - 1 = (j : Int) := by omega
          have e4 : ((j : Int) + (n : Int) + 1).toNat = j + n + 1 := by omega
          have hne : ¬ (l + 1 = j) := by omega
          have hlv := I.lv
          have HB := I.br
          rw [← Kn.mid_eq vs j (n + 1)] at HB
          have hjq : j < mq := by omega
          have hgq := I.bq.cell (k := j) (by have := I.lq; omega)
          have hpre : (vs.take j).length = j := by rw [List.length_take]; omega
          have hul : ((vs.drop j).take (n + 1)).length = n + 1 := by rw [List.length_take, List.length_drop]; omega
          have HS := Lib.hid (divideStep_any gr j (l + 1 - j) n (vs.take j) ((vs.drop j).take (n + 1)) (vs.drop (j + (n + 1))) (some ⟨gd, 0, none⟩) (n + 1) (d.take n) wr HB hpre hul ((I.wv.drop j).take (n + 1)) (I.dsl n (n + 1) (Nat.le_refl _)) HDT.out.2.1 hn2 (by omega) (by omega) HDT.out.2.2 (by rw [HDT.out.1]; exact Kn.long_pre I.wv (by omega) HI.out.2))
          have HLV := Lib.hid hlv
          have HPR := Lib.hid hpre
          have HUL := Lib.hid hul
          clear hpre hul hlv HB
          go_wp2_with fail
          rw [show j + n + 1 - j = n + 1 by omega]
          refine HS.out.mono ?_
          rintro e w6 ⟨q, us, rfl, hql, hW, hqu, hus⟩
          rw [HDT.out.1] at hqu hus
          have hcq : ∃ u, w6.cell? ⟨gq, j, none⟩ = some u := ⟨_, ((I.bq.but hW.gr (by have := I.h3; omega)).cell (k := j) (by have := I.lq; omega))⟩
          obtain ⟨u, hcu⟩ := hcq
          have hfu := (I.bq.but hW.gr (by have := I.h3; omega)).frozen j
          have HL := Lib.hid (Kn.long_step (A := N * 2 ^ s) (D := D) (i := j) (n := n) (q := q) (vs := vs) (qs := qs) (us := us) (by have := I.lq; omega) (by have := HLV.out; omega) HDL.out HI.out.1 HI.out.2 hqu hW.len hus)
          have J := I.step (k := j) hW (((I.wv.take j).append hW.wd).append (I.wv.drop _)) (by rw [List.length_append, List.length_append, List.length_take, List.length_drop, hW.len]; have := HLV.out; omega) hql
          have HQU := Lib.hid hqu
          clear hqu hus hgq
          go_wp2_with fail
          go_roundw
          case rel => exact ⟨j, _, _, by omega, by go_num, J, HL⟩
          case measure => first | (simp [intOf]; done) | (simp [intOf]; omega)
end Go.Proofs.YtmhfdmidaheoeaaDoor
