/- Walks: the reference's divWords. -/
import Derived.Test.YtmhfdmidaheoeaaDoorWm
import Derived.Test.YtmhfdmidaheoeaaDoorD5
import Derived.Laws.OwnMore
namespace Go.Proofs.YtmhfdmidaheoeaaDoor
open Go.RowKit
set_option linter.unusedVariables false

/-- the world of the reference's long division: both arguments, the rest, the quotient so far -/
structure Rd (w wr : World) (A : Option Addr) (ca : Nat) (a : List Nat) (B : Option Addr) (cb : Nat) (b : List Nat) (C : Option Addr) (cc : Nat) (r : List Nat) (D : Option Addr) (cd : Nat) (q : List Nat) : Prop where
  a : Sl wr wr.heap.size A ca a
  b : Sl wr wr.heap.size B cb b
  r : Sl wr wr.heap.size C cc r
  q : Sl wr wr.heap.size D cd q
  bel : Below w.heap.size w wr
section
variable {w wr wx : World} {A B C D : Option Addr} {ca cb cc cd : Nat} {a b r q : List Nat}
theorem Rd.below (h : Rd w wr A ca a B cb b C cc r D cd q) (hb : Below wr.heap.size wr wx) : Rd w wx A ca a B cb b C cc r D cd q :=
  ⟨h.a.nx hb, h.b.nx hb, h.r.nx hb, h.q.nx hb, h.bel.trans (hb.mono h.bel.size)⟩
theorem Rd.newr (h : Rd w wr A ca a B cb b C cc r D cd q) {C' : Option Addr} {cc' : Nat} {r' : List Nat} (hr : Sl wr wr.heap.size C' cc' r') : Rd w wr A ca a B cb b C' cc' r' D cd q := ⟨h.a, h.b, hr, h.q, h.bel⟩
theorem Rd.newq (h : Rd w wr A ca a B cb b C cc r D cd q) {D' : Option Addr} {cd' : Nat} {q' : List Nat} (hq : Sl wr wr.heap.size D' cd' q') : Rd w wr A ca a B cb b C cc r D' cd' q' := ⟨h.a, h.b, h.r, hq, h.bel⟩
end
theorem Sl.none_nil {w : World} {B c : Nat} {ws : List Nat} (h : Sl w B none c ws) : ws = [] := List.eq_nil_of_length_eq_zero (by have := h.nil0 rfl; have := h.cap; omega)
/-- a row of one word of the call's own -/
theorem own_one (W : World) (x : Nat) : (W.alloc (.cells #[.int .u32 (x : Int)] 39)).ownsRow W.heap.size 39 1 (.slice (some ⟨W.heap.size, 0, none⟩) 1 1) 1 [.int .u32 (x : Int)] :=
  World.ownsRow_lit (e := 39) (size := 1) (base := W.heap.size) W #[.int .u32 (x : Int)] 1 (Nat.le_refl _) (by unfold maxLen; omega) rfl
/-- a word ahead of a list -/
theorem cons_sl {w : World} {base n x : Nat} {v : Value} {l : List Nat} (h : w.ownsRow base 39 1 v (1 + n) ([.int .u32 (x : Int)] ++ u32s l)) (hn : l.length = n) (hw : Kn.Wd l) (hx : x < 4294967296) : ∃ A c, v = .slice A (x :: l).length c ∧ Sl w w.heap.size A c (x :: l) := by
  obtain ⟨A, c, rfl, hc⟩ := own_slice h
  have e : (x :: l).length = 1 + n := by rw [List.length_cons, hn]; omega
  rw [e]
  exact ⟨A, c, rfl, Sl.of_own (l := x :: l) h (Kn.Wd.cons hx hw) hc e⟩
theorem below_name {B : Nat} {a w : World} (h : Below B a w) : ∃ W, W = w := ⟨_, rfl⟩
theorem grown_own {W w' : World} {o : Obj} {g : Nat} (h : (W.alloc o).grownBy w' (some g)) (hg : W.heap.size ≤ g) : Below W.heap.size W w' :=
  (al1 W o).grown h (by simp) (fun k e => by injection e with e; omega)

set_option maxRecDepth 100000 in
set_option maxHeartbeats 4000000 in
theorem rdivWords_any (N M : Nat) (A : Option Addr) (ca : Nat) (B : Option Addr) (cb : Nat) (w : World) (ha : Sl w w.heap.size A ca (Kn.dig N)) (hb : Sl w w.heap.size B cb (Kn.dig M)) (hM : 0 < M) (hla : (Kn.dig N).length ≤ 999999) (hlb : (Kn.dig M).length ≤ 999999) :
    Calls Tryd.prog 31 #[.slice A (Kn.dig N).length ca, .slice B (Kn.dig M).length cb] w (DivRes (N / M) (N % M) w) := by
  obtain ⟨i0, hi, hz0, hz1, hz2⟩ := info_parts infoU32
  have hlp := Kn.dig_len_pos.2 hM
  have hcap := ha.cap
  obtain ⟨n, hn⟩ : ∃ n, Hid (n = (Kn.dig M).length) := ⟨_, Lib.hid rfl⟩
  obtain ⟨l, hl⟩ : ∃ n, Hid (n = (Kn.dig N).length) := ⟨_, Lib.hid rfl⟩
  rw [← hn.out] at hlp hlb ⊢
  rw [← hl.out] at hla hcap ⊢
  obtain ⟨sk, hsk⟩ : ∃ s, Hid (s = min (n - 1) l) := ⟨_, Lib.hid rfl⟩
  obtain ⟨t, ht⟩ : ∃ t, Hid (t = l - sk) := ⟨_, Lib.hid rfl⟩
  have hskl : sk ≤ l := by have := hsk.out; omega
  have htl : t + sk = l := by have := ht.out; omega
  have e1 : ((l : Int) - (sk : Int)) = (t : Int) := by omega
  have HDT : Hid (Kn.val ((Kn.dig N).drop t) < M) := Lib.hid (Kn.top_lt hM (by rw [← hl.out, ← hn.out]; have := hsk.out; omega))
  obtain ⟨R0, hR0⟩ : ∃ R, Hid (R = Kn.val ((Kn.dig N).drop t)) := ⟨_, Lib.hid rfl⟩
  rw [← hR0.out] at HDT
  have HWA : Hid (Kn.Wd (Kn.dig N)) := Lib.hid (Kn.dig_wd N)
  have HTW := Lib.hid (fun (W : World) (d : Nat) (hd : d < 4294967297) (h : Sl W W.heap.size B cb (Kn.dig M)) => (by have := rtimesWord_any B cb (Kn.dig M) d W h (by rw [← hn.out]; omega) hd; rwa [Kn.val_dig, ← hn.out] at this : Calls Tryd.prog 61 #[.slice B n cb, .int .u64 (d : Int)] W (MagRes (M * d) W)))
  go_enter Tryd.func31, Tryd.ntmps31
  go_upto_if 19 with (fail)
  go_cut [6] (fun s6 wx => s6 = .int .i64 (sk : Int) ∧ w = wx)
  case first =>
    by_cases hc : l < n - 1
    · have g1 : decide ((l : Int) < (n : Int) - 1) = true := by simp; omega
      have e9 : sk = l := by have := hsk.out; omega
      have e8 : (l : Int) < (n : Int) - 1 := by omega
      go_wp2_with fail
      go_meet
      exact ⟨by rw [e9], rfl⟩
    · have g1 : decide ((l : Int) < (n : Int) - 1) = false := by simp; omega
      have e8 : ¬ ((l : Int) < (n : Int) - 1) := by omega
      have e9 : (n : Int) - 1 = (sk : Int) := by have := hsk.out; omega
      go_wp2_with fail
      go_meet
      exact ⟨by first | rfl | rw [e9], rfl⟩
  case rest =>
    obtain ⟨rfl, rfl⟩ := hcut
    go_upto_region 4 with (fail)
    go_cut [7] (fun s7 wx => ∃ C cc, s7 = .slice C (Kn.dig R0).length cc ∧ Sl wx wx.heap.size C cc (Kn.dig R0) ∧ Below w.heap.size w wx)
    case first =>
      have hlen : ((Kn.dig N).drop t).length = sk := by rw [List.length_drop, ← hl.out]; omega
      have HTR := Lib.hid (fun (W : World) (X : Option Addr) (cx : Nat) (h : Sl W W.heap.size X cx ((Kn.dig N).drop t)) => (by have := rtrim_any X cx ((Kn.dig N).drop t) W h (by rw [hlen]; omega); rwa [hlen, ← hR0.out] at this : Calls Tryd.prog 30 #[.slice X sk cx] W (MagRes R0 W)))
      have HLN := Lib.hid hlen
      have e7 : (t : Int) ≤ (l : Int) := by omega
      have e6 : l - t = sk := by omega
      clear hlen
      by_cases hca : ca = t
      · have e5 : ca = l := by omega
        have hs0 : Hid ((Kn.dig N).drop t = []) := Lib.hid (List.eq_nil_of_length_eq_zero (by rw [HLN.out]; omega))
        obtain rfl : sk = 0 := by omega
        subst hca
        obtain rfl : l = ca := e5.symm
        clear e5 e6 e7
        go_wp2_with fail
        refine (HTR.out w _ _ (by rw [hs0.out]; exact ⟨Nums.nil _ _ _ _, Kn.Wd.nil, Nat.zero_le _, fun _ => rfl⟩)).mono ?_
        rintro e w' ⟨C, cc, rfl, hC, hb2⟩
        go_wp2_with fail
        go_meet
        exact ⟨C, cc, rfl, hC, hb2⟩
      · cases A with
        | none =>
          exfalso
          have h1 := ha.nil0 rfl
          omega
        | some ad =>
          have hX : Sl w w.heap.size (some (ad.add t)) (ca - t) ((Kn.dig N).drop t) := by
            refine ⟨⟨⟨fun hn => ?_⟩⟩, HWA.out.drop t, by rw [HLN.out]; omega, fun e => by cases e⟩
            rw [List.length_map] at hn
            obtain ⟨b, off, e, hb, hc⟩ := ha.nums.row.cells (by rw [List.length_map]; have := HLN.out; have := hl.out; omega)
            injection e with e
            subst e
            refine ⟨b, off + t, by rw [Go.WideShapes.add_plain], hb, fun k u hu => ?_⟩
            have := hc (t + k) u (by rw [List.map_drop, List.getElem?_drop] at hu; exact hu)
            rwa [← Nat.add_assoc] at this
          go_wp2_with fail
          refine (HTR.out w _ _ hX).mono ?_
          rintro e w' ⟨C, cc, rfl, hC, hb2⟩
          go_wp2_with fail
          go_meet
          exact ⟨C, cc, rfl, hC, hb2⟩
    case rest =>
      obtain ⟨C, cc, rfl, hC, bel⟩ := hcut
      obtain ⟨wx, rfl⟩ := below_name bel
      clear hcap
      have M0 : Rd w (wx.alloc (.cells #[] 39)) A ca (Kn.dig N) B cb (Kn.dig M) C cc (Kn.dig R0) (some ⟨wx.heap.size, 0, none⟩) 0 [] :=
        ⟨(ha.nx bel).nx (al1 _ _), (hb.nx bel).nx (al1 _ _), hC.nx (al1 _ _), ⟨Nums.nil _ _ _ _, Kn.Wd.nil, Nat.zero_le _, fun e => by cases e⟩, bel.trans ((al1 _ _).mono bel.size)⟩
      go_wp2_with fail
      revert M0
      generalize wx.alloc (.cells #[] 39) = w1
      generalize wx.heap.size = gq
      intro M0
      have HI0 : Hid (Kn.val ((Kn.dig N).drop t) = M * Kn.val [] + R0) := Lib.hid (by rw [Kn.val_nil, Nat.mul_zero, Nat.zero_add]; exact hR0.out.symm)
      clear hC bel ha hb hsk ht
      go_loopw [7, 8, 9] (fun rv qv iv wr => ∃ (z : Int) (k R : Nat) (qs : List Nat) (C : Option Addr) (cc : Nat) (D : Option Addr) (cd : Nat), k ≤ t ∧ iv = .int .i64 z ∧ Hid (z = (k : Int) - 1) ∧ -1 ≤ z ∧ z ≤ 1000000 ∧ rv = .slice C (Kn.dig R).length cc ∧ qv = .slice D qs.length cd ∧ qs.length + k = t ∧ Hid (R < M) ∧ Hid (Kn.val ((Kn.dig N).drop k) = M * Kn.val qs + R) ∧ Rd w wr A ca (Kn.dig N) B cb (Kn.dig M) C cc (Kn.dig R) D cd qs) (fun _ _ iv _ => (intOf iv + 1).toNat)
      case atStart => exact ⟨(t : Int) - 1, t, R0, [], C, cc, some ⟨gq, 0, none⟩, 0, Nat.le_refl _, by first | rfl | (congr 1; omega), Lib.hid rfl, by omega, by omega, rfl, rfl, by simp, HDT, HI0, M0⟩
      case round =>
        clear M0 HI0 HDT hR0
        obtain ⟨z, k, R, qs, C, cc, D, cd, hk, rfl, hz, hz3, hz4, rfl, rfl, hqk, HRM, HI, I⟩ := hrel
        by_cases hk0 : z < 0
        · obtain rfl : k = 0 := by have := hz.out; omega
          have HF : Hid (Kn.val qs = N / M ∧ R = N % M) := Lib.hid (by
            have h := HI.out
            rw [List.drop_zero, Kn.val_dig] at h
            constructor
            · rw [h, Nat.mul_add_div hM, Nat.div_eq_of_lt HRM.out]; rfl
            · rw [h, Nat.mul_add_mod, Nat.mod_eq_of_lt HRM.out])
          have HTR := Lib.hid (rtrim_any D cd qs wr I.q (by omega))
          rw [HF.out.1] at HTR
          go_wp2_with fail
          refine HTR.out.mono ?_
          rintro e w' ⟨Q, cq, rfl, hQ, hb2⟩
          replace I := I.below hb2
          go_wp2_with fail
          go_ret2
          exact ⟨Q, cq, C, cc, by rw [← HF.out.2]; rfl, hQ, by rw [← HF.out.2]; exact I.r, I.bel⟩
        · obtain ⟨j, rfl⟩ : ∃ j : Nat, z = (j : Int) := ⟨z.toNat, by omega⟩
          obtain rfl : k = j + 1 := by have := hz.out; omega
          clear hk0 hz3 hz4
          have hjl : j < l := by omega
          obtain ⟨b1, o1, x, rfl, hb1, hc1, hx, hxl⟩ := I.a.word (k := j) (by rw [← hl.out]; omega)
          obtain ⟨T, hT⟩ : ∃ T, Hid (T = x + 4294967296 * R) := ⟨_, Lib.hid rfl⟩
          have hRl : (Kn.dig R).length ≤ 999999 := Nat.le_trans (Kn.dig_len_le (Nat.lt_trans HRM.out Kn.dig_lt)) (by rw [← hn.out]; exact hlb)
          have hown := own_one wr x
          have hlm := Lib.hid (show (u32s (Kn.dig R)).length = (Kn.dig R).length * 1 by rw [u32s_len, Nat.mul_one])
          go_upto_region 9 with (fail)
          go_cut [7] (fun s7 wx => ∃ C cc, s7 = .slice C (Kn.dig T).length cc ∧ Rd w wx (some ⟨b1, o1, none⟩) ca (Kn.dig N) B cb (Kn.dig M) C cc (Kn.dig T) D cd qs)
          case first =>
            have HT2 : Hid (Kn.val (x :: Kn.dig R) = T) := Lib.hid (by rw [Kn.val_cons, Kn.val_dig, hT.out])
            cases C with
            | none =>
              have hr0 : Kn.dig R = [] := I.r.none_nil
              have HR0 := Lib.hid hr0
              rw [hr0] at I ⊢
              have S1 : Sl (wr.alloc (.cells #[.int .u32 (x : Int)] 39)) (wr.alloc (.cells #[.int .u32 (x : Int)] 39)).heap.size (some ⟨wr.heap.size, 0, none⟩) 1 [x] := (Sl.one_new wr x hxl).more (by simp)
              have J := I.below (al1 wr (.cells #[.int .u32 (x : Int)] 39))
              go_wp2_with fail
              refine (rtrim_any (some ⟨wr.heap.size, 0, none⟩) 1 [x] _ S1 (by simp)).mono ?_
              rw [show Kn.val [x] = T by rw [← HT2.out, HR0.out]]
              rintro e w' ⟨C, cc, rfl, hC, hb2⟩
              go_wp2_with fail
              go_meet
              exact ⟨C, cc, rfl, (J.below hb2).newr hC⟩
            | some ad =>
              have S1 := own_one wr x
              have J := I.below (al1 wr (.cells #[.int .u32 (x : Int)] 39))
              obtain ⟨bc, oc, hCe⟩ : ∃ bc oc, ad = ⟨bc, oc, none⟩ ∨ Kn.dig R = [] := by
                rcases Nat.eq_zero_or_pos (Kn.dig R).length with h0 | h0
                · exact ⟨0, 0, Or.inr (List.eq_nil_of_length_eq_zero h0)⟩
                · obtain ⟨b, off, e, _, _⟩ := I.r.nums.row.cells (by rw [List.length_map]; exact h0)
                  injection e with e
                  exact ⟨b, off, Or.inl e⟩
              rcases hCe with rfl | hr0
              · have hnw := Lib.hid (news_of J.r)
                go_wp2_with (at_builtin; refine wpList_append_own _ rfl _ _ 22 rfl wr.heap.size 39 i0 (.int .u32 0) 1 4 Tryd.underlying22 hi hz0 hz1 hz2 rfl (by decide) _ _ _ rfl S1 ⟨bc, oc, none⟩ (Kn.dig R).length cc (u32s (Kn.dig R)) rfl hlm.out ?a2 (u32s_one _) ?a3 ?a4 ?a5 ?_)
                case a2 => exact hnw.out
                case a3 => unfold maxLen; omega
                case a4 => omega
                case a5 => simp
                intro v' w3 hown' hgrow _
                obtain ⟨A3, c3, rfl, hS3⟩ := cons_sl hown' rfl (Kn.dig_wd R) hxl
                have J2 := I.below (grown_own hgrow (Nat.le_refl _))
                clear hown' hgrow S1 hnw
                have hlc : (x :: Kn.dig R).length ≤ 1000000 := by simp; omega
                have HTT := Lib.hid (rtrim_any A3 c3 (x :: Kn.dig R) w3 hS3 (by omega))
                rw [HT2.out] at HTT
                go_wp2_with fail
                refine HTT.out.mono ?_
                rintro e w' ⟨C, cc, rfl, hC, hb2⟩
                go_wp2_with fail
                go_meet
                exact ⟨C, cc, rfl, (J2.below hb2).newr hC⟩
              · have HR0 := Lib.hid hr0
                rw [hr0] at I ⊢
                have S2 : Sl (wr.alloc (.cells #[.int .u32 (x : Int)] 39)) (wr.alloc (.cells #[.int .u32 (x : Int)] 39)).heap.size (some ⟨wr.heap.size, 0, none⟩) 1 [x] := (Sl.one_new wr x hxl).more (by simp)
                have J := I.below (al1 wr (.cells #[.int .u32 (x : Int)] 39))
                clear S1
                go_wp2_with fail
                refine (rtrim_any (some ⟨wr.heap.size, 0, none⟩) 1 [x] _ S2 (by simp)).mono ?_
                rw [show Kn.val [x] = T by rw [← HT2.out, HR0.out]]
                rintro e w' ⟨C, cc, rfl, hC, hb2⟩
                go_wp2_with fail
                go_meet
                exact ⟨C, cc, rfl, (J.below hb2).newr hC⟩
          case rest =>
            clear I
            obtain ⟨C, cc, rfl, I⟩ := hcut
            obtain ⟨wx, rfl⟩ := below_name I.bel
            have HTM : Hid (T < M * 4294967296) := Lib.hid (by
              rw [hT.out]
              have h1 : (R + 1) * 4294967296 ≤ M * 4294967296 := Nat.mul_le_mul_right _ HRM.out
              omega)
            clear hown hlm
            go_wp2_with fail
            go_loopw [10, 11] (fun lv hv wi => ∃ lo hi, lv = .int .u64 (lo : Nat) ∧ hv = .int .u64 (hi : Nat) ∧ lo < hi ∧ hi ≤ 4294967296 ∧ Hid (M * lo ≤ T ∧ T < M * hi) ∧ Rd w wi (some ⟨b1, o1, none⟩) ca (Kn.dig N) B cb (Kn.dig M) C cc (Kn.dig T) D cd qs) (fun lv hv _ => (intOf hv - intOf lv).toNat)
            case atStart => exact ⟨0, 4294967296, rfl, rfl, by omega, by omega, Lib.hid ⟨by omega, HTM.out⟩, I⟩
            case round =>
              clear I
              obtain ⟨lo, hi', rfl, rfl, hlh, hhb, HL, I⟩ := hrel
              have hTl : (Kn.dig T).length ≤ 1000000 := by
                refine Kn.dig_len_le (Nat.lt_of_lt_of_le (Nat.lt_of_lt_of_le HTM.out ?_) (Kn.pw_mono (show n + 1 ≤ 1000000 by omega)))
                rw [Kn.pw_succ, Nat.mul_comm]
                exact Nat.mul_le_mul_left _ (by rw [hn.out]; exact Nat.le_of_lt Kn.dig_lt)
              by_cases hgo : lo + 1 < hi'
              · have gd : decide ((1 : Int) < (hi' : Int) - (lo : Int)) = true := by simp; omega
                obtain ⟨mid, hmid⟩ : ∃ m, m = (lo + hi') / 2 := ⟨_, rfl⟩
                have em : ((lo : Int) + (hi' : Int)) / 2 = (mid : Int) := by omega
                have hm1 : lo < mid := by omega
                have hm2 : mid < hi' := by omega
                obtain ⟨P, hP⟩ : ∃ P, Hid (P = M * mid) := ⟨_, Lib.hid rfl⟩
                have hPl : (Kn.dig P).length ≤ 1000000 := by
                  refine Kn.dig_len_le (Nat.lt_of_lt_of_le (m := M * 4294967296) (by rw [hP.out]; exact Nat.mul_lt_mul_of_pos_left (by omega) hM) ?_)
                  refine Nat.le_trans ?_ (Kn.pw_mono (show n + 1 ≤ 1000000 by omega))
                  rw [Kn.pw_succ, Nat.mul_comm]
                  exact Nat.mul_le_mul_left _ (by rw [hn.out]; exact Nat.le_of_lt Kn.dig_lt)
                have HMD := Lib.hid hmid
                have HTM2 := Lib.hid (fun (W : World) (h : Sl W W.heap.size B cb (Kn.dig M)) => (by have := HTW.out W mid (by omega) h; rwa [← hP.out] at this : Calls Tryd.prog 61 #[.slice B n cb, .int .u64 (mid : Int)] W (MagRes P W)))
                have hlo3 : (lo : Int) + (hi' : Int) < 18446744073709551616 := by omega
                clear hmid hgo
                go_wp2_with fail
                refine (HTM2.out _ I.b).mono ?_
                rintro e w2 ⟨A2, c2, rfl, hS2, hb2⟩
                replace I := I.below hb2
                obtain ⟨cm, hcm⟩ : ∃ cm, Hid (cm = Kn.cmp P T) := ⟨_, Lib.hid rfl⟩
                clear hb2
                by_cases hPT : P ≤ T
                · have gc : decide (cm ≤ 0) = true := by
                    rw [hcm.out]
                    rcases Nat.lt_or_ge P T with h | h
                    · rw [Kn.cmp_lt h]; rfl
                    · rw [show P = T by omega, Kn.cmp_self]; rfl
                  have HL2 : Hid (M * mid ≤ T ∧ T < M * hi') := Lib.hid ⟨by rw [← hP.out]; exact hPT, HL.out.2⟩
                  go_wp2_with fail
                  refine (rcompareWords_any A2 c2 P C cc T w2 _ hS2 I.r (by omega) (by omega)).mono ?_
                  rintro e w3 ⟨rfl, q, rfl⟩
                  replace I := I.below (bDrew (Below.refl _ w2) q)
                  rw [← hcm.out]
                  go_wp2_with fail
                  go_roundw
                  case rel => exact ⟨mid, hi', rfl, rfl, hm2, hhb, HL2, I⟩
                  case measure => first | (simp [intOf]; done) | (simp [intOf]; omega)
                · have gc : decide (cm ≤ 0) = false := by rw [hcm.out, Kn.cmp_gt (by omega)]; rfl
                  have HL2 : Hid (M * lo ≤ T ∧ T < M * mid) := Lib.hid ⟨HL.out.1, by rw [← hP.out]; omega⟩
                  clear hPT
                  go_wp2_with fail
                  refine (rcompareWords_any A2 c2 P C cc T w2 _ hS2 I.r (by omega) (by omega)).mono ?_
                  rintro e w3 ⟨rfl, q, rfl⟩
                  replace I := I.below (bDrew (Below.refl _ w2) q)
                  rw [← hcm.out]
                  go_wp2_with fail
                  go_roundw
                  case rel => exact ⟨lo, mid, rfl, rfl, hm1, by omega, HL2, I⟩
                  case measure => first | (simp [intOf]; done) | (simp [intOf]; omega)
              · obtain rfl : hi' = lo + 1 := by omega
                have gd : decide ((1 : Int) < ((lo : Int) + 1) - (lo : Int)) = false := by simp; omega
                have gd2 : ((lo : Int) + 1) - (lo : Int) = 1 := by omega
                have HQ := Lib.hid (Kn.half_end HL.out.1 HL.out.2)
                obtain ⟨P, hP⟩ : ∃ P, Hid (P = M * lo) := ⟨_, Lib.hid rfl⟩
                obtain ⟨R2, hR2⟩ : ∃ X, Hid (X = T - P) := ⟨_, Lib.hid rfl⟩
                have hPT : P ≤ T := by rw [hP.out]; exact HL.out.1
                have hPTl : (Kn.dig P).length ≤ (Kn.dig T).length := Kn.dig_len_le (Nat.lt_of_le_of_lt hPT Kn.dig_lt)
                have HTM2 := Lib.hid (fun (W : World) (h : Sl W W.heap.size B cb (Kn.dig M)) => (by have := HTW.out W lo (by omega) h; rwa [← hP.out] at this : Calls Tryd.prog 61 #[.slice B n cb, .int .u64 (lo : Int)] W (MagRes P W)))
                have HSW := Lib.hid (fun (W : World) (X : Option Addr) (cx : Nat) (h : Sl W W.heap.size C cc (Kn.dig T)) (h2 : Sl W W.heap.size X cx (Kn.dig P)) => (by have := rsubWords_any C cc (Kn.dig T) X cx (Kn.dig P) W h h2 (by omega) hPTl (Lib.hid (by rw [Kn.val_dig, Kn.val_dig]; exact hPT)); rwa [Kn.val_dig, Kn.val_dig, ← hR2.out] at this : Calls Tryd.prog 62 #[.slice C (Kn.dig T).length cc, .slice X (Kn.dig P).length cx] W (MagRes R2 W)))
                have HRM2 : Hid (R2 < M) := Lib.hid (by rw [hR2.out, hP.out, HQ.out.2]; exact Nat.mod_lt _ hM)
                have HI2 : Hid (Kn.val ((Kn.dig N).drop j) = M * Kn.val (lo :: qs) + R2) := Lib.hid (by
                  rw [Kn.val_drop_step (Kn.dig N) (by rw [← hl.out]; exact hjl), ← hx.out, HI.out, Kn.val_cons, Nat.mul_add M, Nat.mul_left_comm M]
                  have h1 := hT.out
                  have h2 := hR2.out
                  have h3 := hP.out
                  omega)
                have hlw : lo < 4294967296 := by omega
                have ew : (lo : Int) % 4294967296 = (lo : Int) := by omega
                clear hPTl
                go_wp2_with fail
                refine (HTM2.out _ I.b).mono ?_
                rintro e w2 ⟨A2, c2, rfl, hS2, hb2⟩
                replace I := I.below hb2
                clear hb2
                go_wp2_with fail
                refine (HSW.out _ _ _ I.r hS2).mono ?_
                rintro e w3 ⟨A3, c3, rfl, hS3, hb3⟩
                replace I := (I.below hb3).newr hS3
                clear hb3
                have hqlm := Lib.hid (show (u32s qs).length = qs.length * 1 by rw [u32s_len, Nat.mul_one])
                have hqw := I.q.wd
                have S1 := own_one w3 lo
                have J := I.below (al1 w3 (.cells #[.int .u32 (lo : Int)] 39))
                clear hT HI hR2 HTM HL hS2 hS3
                cases D with
                | none =>
                  have hq0 : qs = [] := I.q.none_nil
                  subst hq0
                  have S2 : Sl (w3.alloc (.cells #[.int .u32 (lo : Int)] 39)) (w3.alloc (.cells #[.int .u32 (lo : Int)] 39)).heap.size (some ⟨w3.heap.size, 0, none⟩) 1 [lo] := (Sl.one_new w3 lo hlw).more (by simp)
                  have J2 := J.newq S2
                  have hj1 : 1 + j = t := by simp at hqk; omega
                  clear S1 J
                  go_wp2_with fail
                  go_roundw
                  case rel => exact ⟨(j : Int) - 1, j, R2, [lo], A3, c3, some ⟨w3.heap.size, 0, none⟩, 1, by omega, by go_num, Lib.hid rfl, by omega, by omega, rfl, rfl, by simpa using hj1, HRM2, HI2, J2⟩
                  case measure => first | (simp [intOf]; done) | (simp [intOf]; omega)
                | some ad =>
                  obtain ⟨bc, oc, hCe⟩ : ∃ bc oc, ad = ⟨bc, oc, none⟩ ∨ qs = [] := by
                    rcases Nat.eq_zero_or_pos qs.length with h0 | h0
                    · exact ⟨0, 0, Or.inr (List.eq_nil_of_length_eq_zero h0)⟩
                    · obtain ⟨b, off, e, _, _⟩ := I.q.nums.row.cells (by rw [List.length_map]; exact h0)
                      injection e with e
                      exact ⟨b, off, Or.inl e⟩
                  rcases hCe with rfl | hq0
                  · have hnw := Lib.hid (news_of J.q)
                    go_wp2_with (at_builtin; refine wpList_append_own _ rfl _ _ 22 rfl w3.heap.size 39 i0 (.int .u32 0) 1 4 Tryd.underlying22 hi hz0 hz1 hz2 rfl (by decide) _ _ _ rfl S1 ⟨bc, oc, none⟩ qs.length cd (u32s qs) rfl hqlm.out ?b2 (u32s_one _) ?b3 ?b4 ?b5 ?_)
                    case b2 => exact hnw.out
                    case b3 => unfold maxLen; omega
                    case b4 => omega
                    case b5 => simp
                    intro v' w4 hown' hgrow _
                    obtain ⟨A4, c4, rfl, hS4⟩ := cons_sl hown' rfl hqw hlw
                    have J2 := (I.below (grown_own hgrow (Nat.le_refl _))).newq hS4
                    clear hown' hgrow S1 hnw J
                    go_wp2_with fail
                    go_roundw
                    case rel => exact ⟨(j : Int) - 1, j, R2, lo :: qs, A3, c3, A4, c4, by omega, by go_num, Lib.hid rfl, by omega, by omega, rfl, rfl, by rw [List.length_cons]; omega, HRM2, HI2, J2⟩
                    case measure => first | (simp [intOf]; done) | (simp [intOf]; omega)
                  · subst hq0
                    have S2 : Sl (w3.alloc (.cells #[.int .u32 (lo : Int)] 39)) (w3.alloc (.cells #[.int .u32 (lo : Int)] 39)).heap.size (some ⟨w3.heap.size, 0, none⟩) 1 [lo] := (Sl.one_new w3 lo hlw).more (by simp)
                    have J2 := J.newq S2
                    have hj1 : 1 + j = t := by simp at hqk; omega
                    clear S1 J
                    go_wp2_with fail
                    go_roundw
                    case rel => exact ⟨(j : Int) - 1, j, R2, [lo], A3, c3, some ⟨w3.heap.size, 0, none⟩, 1, by omega, by go_num, Lib.hid rfl, by omega, by omega, rfl, rfl, by simpa using hj1, HRM2, HI2, J2⟩
                    case measure => first | (simp [intOf]; done) | (simp [intOf]; omega)
end Go.Proofs.YtmhfdmidaheoeaaDoor
