/- Walks: the reference's word, addWords, subWords, timesWord, compareWords. -/
import Derived.Test.YtmhfdmidaheoeaaDoorWc
import Derived.Test.YtmhfdmidaheoeaaDoorMath4
namespace Go.Proofs.YtmhfdmidaheoeaaDoor
open Go.RowKit
set_option linter.unusedVariables false

set_option maxHeartbeats 400000 in
theorem rword_any (A : Option Addr) (c : Nat) (ws : List Nat) (k x : Nat) (w : World) (B : Nat) (h : Sl w B A c ws) (hl : ws.length ≤ 1000000000) (hk : k ≤ 1000000000) (hx : Hid (x = ws.getD k 0)) :
    Calls Tryd.prog 53 #[.slice A ws.length c, .int .i64 (k : Int)] w fun e w' => e = .returned (.int .u64 (x : Int)) ∧ w = w' := by
  by_cases hlt : k < ws.length
  · obtain ⟨b, off, y, rfl, hb, hc, hy, hyl⟩ := h.word hlt
    have hxy : Hid (y = x) := Lib.hid (by rw [hx.out, hy.out])
    go_enter Tryd.func53, Tryd.ntmps53
    go_wp2
    go_ret
    exact ⟨ret_int (by rw [hxy.out]), rfl⟩
  · have hlt2 : decide (k < ws.length) = false := by simp; omega
    have hx0 : Hid (x = 0) := Lib.hid (by rw [hx.out, List.getD_eq_getElem?_getD, List.getElem?_eq_none (by omega)]; rfl)
    go_enter Tryd.func53, Tryd.ntmps53
    go_wp2
    go_ret
    exact ⟨ret_int (by rw [hx0.out]; rfl), rfl⟩

/-- a row that the call appends to -/
structure Ap (w wr : World) (v : Value) (n : Nat) (l : List Nat) : Prop where
  own : wr.ownsRow w.heap.size 39 1 v n (u32s l)
  len : l.length = n
  wd : Kn.Wd l
  hz : w.heap.size ≤ wr.heap.size
  bel : Below w.heap.size w wr
theorem u32s_snoc (l : List Nat) (x : Nat) : u32s (l ++ [x]) = u32s l ++ [.int .u32 (x : Int)] := by unfold u32s; rw [List.map_append]; rfl
theorem Ap.new_ (w : World) : Ap w (w.alloc (.cells #[] 39)) (.slice (some ⟨w.heap.size, 0, none⟩) 0 0) 0 [] :=
  ⟨World.ownsRow_made (e := 39) (size := 1) (base := w.heap.size) w #[] 0 (Nat.le_refl _) (by unfold maxLen; omega) rfl, rfl, Kn.Wd.nil, by simp, al1 _ _⟩
theorem Ap.grown {w wr w3 : World} {v v' : Value} {n : Nat} {l : List Nat} {x : Nat} {o : Obj} (h : Ap w wr v n l) (hx : x < 4294967296)
    (ho : w3.ownsRow w.heap.size 39 1 v' (n + 1) (u32s l ++ [.int .u32 (x : Int)])) (hg : (wr.alloc o).grownBy w3 v.ownBlock) : Ap w w3 v' (n + 1) (l ++ [x]) := by
  have hz := h.hz
  have hge : ∀ k, v.ownBlock = some k → w.heap.size ≤ k := fun k e => (h.own.lt k e).1
  refine ⟨by rw [u32s_snoc]; exact ho, by rw [List.length_append, h.len]; rfl, h.wd.append (Kn.Wd.cons hx Kn.Wd.nil), by have := hg.size; simp at this; omega, (h.bel.alloc hz o).grown hg (by simp; omega) hge⟩
theorem Ap.sl {w wr : World} {A : Option Addr} {c n : Nat} {l : List Nat} (h : Ap w wr (.slice A n c) n l) (hc : n ≤ c) : Sl wr wr.heap.size A c l := Sl.of_own h.own h.wd hc h.len

set_option maxRecDepth 100000 in
set_option maxHeartbeats 2000000 in
theorem raddWords_any (A : Option Addr) (ca : Nat) (a : List Nat) (B : Option Addr) (cb : Nat) (b : List Nat) (w : World) (ha : Sl w w.heap.size A ca a) (hb : Sl w w.heap.size B cb b) (hla : a.length ≤ 99999999) (hlb : b.length ≤ 99999999) :
    Calls Tryd.prog 85 #[.slice A a.length ca, .slice B b.length cb] w (MagRes (Kn.val a + Kn.val b) w) := by
  obtain ⟨i0, hi, hz0, hz1, hz2⟩ := info_parts infoU32
  go_enter Tryd.func85, Tryd.ntmps85
  go_wp2_with fail
  have I0 := Ap.new_ w
  revert I0
  generalize w.alloc (.cells #[] 39) = w1
  intro I0
  go_loopw [5, 6, 7] (fun ov cv iv wr => ∃ k out cr, k ≤ max a.length b.length ∧ iv = .int .i64 (k : Nat) ∧ cv = .int .u64 (cr : Nat) ∧ cr ≤ 1 ∧ Ap w wr ov k out ∧ Hid (Kn.val out + Kn.pw k * cr = Kn.val (a.take k) + Kn.val (b.take k))) (fun _ _ iv _ => max a.length b.length - (intOf iv).toNat)
  case atStart => exact ⟨0, [], 0, by simp, rfl, rfl, by omega, I0, Lib.hid (by simp [Kn.val])⟩
  case round =>
    obtain ⟨k, out, cr, hk, rfl, rfl, hcr, I, HI⟩ := hrel
    obtain ⟨A5, c5, hv5, hc5⟩ := own_slice I.own
    subst hv5
    have hX := (ha.below I.bel)
    have hY := (hb.below I.bel)
    by_cases hlt : k < max a.length b.length
    · obtain ⟨x, hx⟩ : ∃ x, Hid (x = a.getD k 0) := ⟨_, Lib.hid rfl⟩
      obtain ⟨y, hy⟩ : ∃ y, Hid (y = b.getD k 0) := ⟨_, Lib.hid rfl⟩
      have hxl : x < 4294967296 := by rw [hx.out]; exact ha.wd.getD _
      have hyl : y < 4294967296 := by rw [hy.out]; exact hb.wd.getD _
      obtain ⟨m, hmm⟩ : ∃ m, m = (x + y + cr) % 4294967296 := ⟨_, rfl⟩
      obtain ⟨q, hqq⟩ : ∃ q, q = (x + y + cr) / 4294967296 := ⟨_, rfl⟩
      have HA : Hid (Kn.val (out ++ [m]) + Kn.pw (k + 1) * q = Kn.val (a.take (k + 1)) + Kn.val (b.take (k + 1))) := Lib.hid (by rw [hmm, hqq]; exact Kn.add_app I.len HI.out (by rw [← hx.out, ← hy.out]; omega))
      have hm : m < 4294967296 := by omega
      have hq : q ≤ 1 := by omega
      have em : ((x : Int) + (y : Int) + (cr : Int)) % 4294967296 = (m : Int) := by omega
      have eq : ((x : Int) + (y : Int) + (cr : Int)) / 4294967296 = (q : Int) := by omega
      have HM := Lib.hid hmm
      have HQ := Lib.hid hqq
      clear hmm hqq
      by_cases hka : k < a.length
      · have d1 : decide (k < a.length) = true := by simp [hka]
        go_wp2_with (first
          | (go_at_call 53; (with_reducible refine (rword_any A ca a k x _ _ hX (by omega) (by omega) hx).mono ?_); rintro e w' ⟨rfl, rfl⟩)
          | (go_at_call 53; (with_reducible refine (rword_any B cb b k y _ _ hY (by omega) (by omega) hy).mono ?_); rintro e w' ⟨rfl, rfl⟩)
          | (at_builtin; refine wpList_append_own _ rfl _ _ 22 rfl w.heap.size 39 i0 (.int .u32 0) 1 4 Tryd.underlying22 hi hz0 hz1 hz2 rfl (by decide) _ _ _ rfl (I.own.alloc _) ⟨_, 0, none⟩ 1 1 [.int .u32 (m : Int)] rfl rfl ?c11 ?c12 ?c13 ?c14 ?c15 ?_))
        case c11 => exact cell_one_new _ _ _
        case c12 => first | rfl | (intro u hu; simp at hu; subst hu; rfl)
        case c13 => unfold maxLen; omega
        case c14 => omega
        case c15 => have := I.hz; simp; omega
        intro v' w3 hown' hgrow _
        have J := I.grown (x := m) hm hown' hgrow
        clear hown' hgrow
        go_wp2_with fail
        go_roundw
        case rel => exact ⟨k + 1, _, q, by omega, by go_num, rfl, hq, J, HA⟩
        case measure => simp [intOf]; omega
      · have d1 : decide (k < a.length) = false := by simp; omega
        have hkb : k < b.length := by omega
        have d2 : decide (k < b.length) = true := by simp [hkb]
        go_wp2_with (first
          | (go_at_call 53; (with_reducible refine (rword_any A ca a k x _ _ hX (by omega) (by omega) hx).mono ?_); rintro e w' ⟨rfl, rfl⟩)
          | (go_at_call 53; (with_reducible refine (rword_any B cb b k y _ _ hY (by omega) (by omega) hy).mono ?_); rintro e w' ⟨rfl, rfl⟩)
          | (at_builtin; refine wpList_append_own _ rfl _ _ 22 rfl w.heap.size 39 i0 (.int .u32 0) 1 4 Tryd.underlying22 hi hz0 hz1 hz2 rfl (by decide) _ _ _ rfl (I.own.alloc _) ⟨_, 0, none⟩ 1 1 [.int .u32 (m : Int)] rfl rfl ?c21 ?c22 ?c23 ?c24 ?c25 ?_))
        case c21 => exact cell_one_new _ _ _
        case c22 => first | rfl | (intro u hu; simp at hu; subst hu; rfl)
        case c23 => unfold maxLen; omega
        case c24 => omega
        case c25 => have := I.hz; simp; omega
        intro v' w3 hown' hgrow _
        have J := I.grown (x := m) hm hown' hgrow
        clear hown' hgrow
        go_wp2_with fail
        go_roundw
        case rel => exact ⟨k + 1, _, q, by omega, by go_num, rfl, hq, J, HA⟩
        case measure => simp [intOf]; omega
    · have d1 : decide (k < a.length) = false := by simp; omega
      have d2 : decide (k < b.length) = false := by simp; omega
      have em : (cr : Int) % 4294967296 = (cr : Int) := by omega
      have hka : a.length ≤ k := by omega
      have hkb : b.length ≤ k := by omega
      go_wp2_with (at_builtin; refine wpList_append_own _ rfl _ _ 22 rfl w.heap.size 39 i0 (.int .u32 0) 1 4 Tryd.underlying22 hi hz0 hz1 hz2 rfl (by decide) _ _ _ rfl (I.own.alloc _) ⟨_, 0, none⟩ 1 1 [.int .u32 (cr : Int)] rfl rfl ?c31 ?c32 ?c33 ?c34 ?c35 ?_)
      case c31 => exact cell_one_new _ _ _
      case c32 => first | rfl | (intro u hu; simp at hu; subst hu; rfl)
      case c33 => unfold maxLen; omega
      case c34 => omega
      case c35 => have := I.hz; simp; omega
      intro v' w3 hown' hgrow _
      obtain ⟨A6, c6, hv6, hc6⟩ := own_slice hown'
      subst hv6
      have J := I.grown (x := cr) (by omega) hown' hgrow
      have HV : Hid (Kn.val (out ++ [cr]) = Kn.val a + Kn.val b) := Lib.hid (by have h := HI.out; rw [List.take_of_length_le hka, List.take_of_length_le hkb] at h; rw [Kn.app_end I.len]; exact h)
      clear hown' hgrow
      have HT : Hid (Calls Tryd.prog 30 #[.slice A6 (k + 1) c6] w3 (MagRes (Kn.val a + Kn.val b) w3)) := Lib.hid (by
        have h := rtrim_any A6 c6 _ w3 (J.sl hc6) (by rw [J.len]; omega)
        rw [J.len, HV.out] at h
        exact h)
      go_wp2_with fail
      refine HT.out.mono ?_
      rintro e w4 ⟨A7, c7, rfl, hS, hb4⟩
      go_wp2_with fail
      go_ret
      exact ⟨A7, c7, rfl, hS, J.bel.trans (hb4.mono J.bel.size)⟩

set_option maxRecDepth 100000 in
set_option maxHeartbeats 2000000 in
theorem rsubWords_any (A : Option Addr) (ca : Nat) (a : List Nat) (B : Option Addr) (cb : Nat) (b : List Nat) (w : World) (ha : Sl w w.heap.size A ca a) (hb : Sl w w.heap.size B cb b) (hla : a.length ≤ 99999999) (hba : b.length ≤ a.length) (hle : Hid (Kn.val b ≤ Kn.val a)) :
    Calls Tryd.prog 62 #[.slice A a.length ca, .slice B b.length cb] w (MagRes (Kn.val a - Kn.val b) w) := by
  obtain ⟨i0, hi, hz0, hz1, hz2⟩ := info_parts infoU32
  go_enter Tryd.func62, Tryd.ntmps62
  go_wp2_with fail
  have I0 := Ap.new_ w
  revert I0
  generalize w.alloc (.cells #[] 39) = w1
  intro I0
  go_loopw [5, 6, 7] (fun ov cv iv wr => ∃ k out cr, k ≤ a.length ∧ iv = .int .i64 (k : Nat) ∧ cv = .int .u64 (cr : Nat) ∧ cr ≤ 1 ∧ Ap w wr ov k out ∧ Hid (Kn.val out + Kn.val (b.take k) = Kn.val (a.take k) + Kn.pw k * cr)) (fun _ _ iv _ => a.length - (intOf iv).toNat)
  case atStart => exact ⟨0, [], 0, by simp, rfl, rfl, by omega, I0, Lib.hid (by simp [Kn.val])⟩
  case round =>
    obtain ⟨k, out, cr, hk, rfl, rfl, hcr, I, HI⟩ := hrel
    obtain ⟨A5, c5, hv5, hc5⟩ := own_slice I.own
    subst hv5
    have hX := (ha.below I.bel)
    have hY := (hb.below I.bel)
    by_cases hlt : k < a.length
    · obtain ⟨x, hx⟩ : ∃ x, Hid (x = a.getD k 0) := ⟨_, Lib.hid rfl⟩
      obtain ⟨y, hy⟩ : ∃ y, Hid (y = b.getD k 0) := ⟨_, Lib.hid rfl⟩
      have hxl : x < 4294967296 := by rw [hx.out]; exact ha.wd.getD _
      have hyl : y < 4294967296 := by rw [hy.out]; exact hb.wd.getD _
      obtain ⟨m, hmm⟩ : ∃ m, m = (4294967296 + x - y - cr) % 4294967296 := ⟨_, rfl⟩
      obtain ⟨t, htt⟩ : ∃ t, t = (4294967296 + x - y - cr) / 4294967296 := ⟨_, rfl⟩
      obtain ⟨q, hqq⟩ : ∃ q, q = 1 - t := ⟨_, rfl⟩
      have HA : Hid (Kn.val (out ++ [m]) + Kn.val (b.take (k + 1)) = Kn.val (a.take (k + 1)) + Kn.pw (k + 1) * q) := Lib.hid (Kn.sub_app I.len HI.out (by rw [← hx.out, ← hy.out]; omega))
      have hm : m < 4294967296 := by omega
      have ht : t ≤ 1 := by omega
      have hq : q ≤ 1 := by omega
      have em : (4294967296 + (x : Int) - (y : Int) - (cr : Int)) % 4294967296 = (m : Int) := by omega
      have et : (4294967296 + (x : Int) - (y : Int) - (cr : Int)) / 4294967296 = (t : Int) := by omega
      have eq : (1 : Int) - (t : Int) = (q : Int) := by omega
      have HM := Lib.hid hmm
      have HQ := Lib.hid hqq
      have HT := Lib.hid htt
      clear hmm hqq htt
      go_wp2_with (first
        | (go_at_call 53; (with_reducible refine (rword_any A ca a k x _ _ hX (by omega) (by omega) hx).mono ?_); rintro e w' ⟨rfl, rfl⟩)
        | (go_at_call 53; (with_reducible refine (rword_any B cb b k y _ _ hY (by omega) (by omega) hy).mono ?_); rintro e w' ⟨rfl, rfl⟩)
        | (at_builtin; refine wpList_append_own _ rfl _ _ 22 rfl w.heap.size 39 i0 (.int .u32 0) 1 4 Tryd.underlying22 hi hz0 hz1 hz2 rfl (by decide) _ _ _ rfl (I.own.alloc _) ⟨_, 0, none⟩ 1 1 [.int .u32 (m : Int)] rfl rfl ?c51 ?c52 ?c53 ?c54 ?c55 ?_))
      case c51 => exact cell_one_new _ _ _
      case c52 => first | rfl | (intro u hu; simp at hu; subst hu; rfl)
      case c53 => unfold maxLen; omega
      case c54 => omega
      case c55 => have := I.hz; simp; omega
      intro v' w3 hown' hgrow _
      have J := I.grown (x := m) hm hown' hgrow
      clear hown' hgrow
      go_wp2_with fail
      go_roundw
      case rel => exact ⟨k + 1, _, q, by omega, by go_num, rfl, hq, J, HA⟩
      case measure => simp [intOf]; omega
    · obtain rfl : k = a.length := by omega
      have HV : Hid (Kn.val out = Kn.val a - Kn.val b) := Lib.hid (Kn.sub_end I.wd I.len hba HI.out hle.out hcr)
      have HTR : Hid (Calls Tryd.prog 30 #[.slice A5 a.length c5] wr (MagRes (Kn.val a - Kn.val b) wr)) := Lib.hid (by
        have h := rtrim_any A5 c5 _ wr (I.sl hc5) (by rw [I.len]; omega)
        rw [I.len, HV.out] at h
        exact h)
      go_wp2_with fail
      refine HTR.out.mono ?_
      rintro e w4 ⟨A7, c7, rfl, hS, hb4⟩
      go_wp2_with fail
      go_ret
      exact ⟨A7, c7, rfl, hS, I.bel.trans (hb4.mono I.bel.size)⟩

set_option maxRecDepth 100000 in
set_option maxHeartbeats 2000000 in
theorem rtimesWord_any (A : Option Addr) (ca : Nat) (a : List Nat) (d : Nat) (w : World) (ha : Sl w w.heap.size A ca a) (hla : a.length ≤ 99999999) (hd : d < 4294967297) :
    Calls Tryd.prog 61 #[.slice A a.length ca, .int .u64 (d : Int)] w (MagRes (Kn.val a * d) w) := by
  obtain ⟨N, hN⟩ : ∃ N, Hid (N = Kn.val a * d) := ⟨_, Lib.hid rfl⟩
  rw [← hN.out]
  obtain ⟨i0, hi, hz0, hz1, hz2⟩ := info_parts infoU32
  go_enter Tryd.func61, Tryd.ntmps61
  go_wp2_with fail
  have I0 := Ap.new_ w
  revert I0
  generalize w.alloc (.cells #[] 39) = w1
  intro I0
  go_loopw [5, 6, 7] (fun ov cv iv wr => ∃ k out cr, k ≤ a.length ∧ iv = .int .i64 (k : Nat) ∧ cv = .int .u64 (cr : Nat) ∧ cr < 4294967296 ∧ Ap w wr ov k out ∧ Hid (Kn.val out + Kn.pw k * cr = Kn.val (a.take k) * d)) (fun _ _ iv _ => a.length - (intOf iv).toNat)
  case atStart => exact ⟨0, [], 0, by simp, rfl, rfl, by omega, I0, Lib.hid (by simp [Kn.val])⟩
  case round =>
    obtain ⟨k, out, cr, hk, rfl, rfl, hcr, I, HI⟩ := hrel
    obtain ⟨A5, c5, hv5, hc5⟩ := own_slice I.own
    subst hv5
    have hX := (ha.below I.bel)
    by_cases hlt : k < a.length
    · obtain ⟨b1, o1, x, rfl, hb1, hc1, hx, hxl⟩ := hX.word hlt
      obtain ⟨p, hp⟩ : ∃ p : Nat, Hid (p = x * d) := ⟨_, Lib.hid rfl⟩
      have hpl : p ≤ 18446744069414584320 := by rw [hp.out]; exact Nat.le_trans (Nat.mul_le_mul (show x ≤ 4294967295 by omega) (show d ≤ 4294967296 by omega)) (by decide)
      have hpw : IntKind.u64.wrap ((x : Int) * (d : Int)) = (p : Int) := by rw [← Int.natCast_mul, ← hp.out]; exact wrap_nat (by omega)
      obtain ⟨m, hmm⟩ : ∃ m, m = (p + cr) % 4294967296 := ⟨_, rfl⟩
      obtain ⟨q, hqq⟩ : ∃ q, q = (p + cr) / 4294967296 := ⟨_, rfl⟩
      have HA : Hid (Kn.val (out ++ [m]) + Kn.pw (k + 1) * q = Kn.val (a.take (k + 1)) * d) := Lib.hid (by rw [hmm, hqq]; exact Kn.times_app I.len HI.out (by rw [← hx.out, hp.out]))
      have hm : m < 4294967296 := by omega
      have hq : q < 4294967296 := by omega
      have es : IntKind.u64.wrap ((p : Int) + (cr : Int)) = (p : Int) + (cr : Int) := by have := wrap_nat (n := p + cr) (by omega); rwa [Int.natCast_add] at this
      have em : ((p : Int) + (cr : Int)) % 4294967296 = (m : Int) := by omega
      have eq : ((p : Int) + (cr : Int)) / 4294967296 = (q : Int) := by omega
      have HM := Lib.hid hmm
      have HQ := Lib.hid hqq
      clear hmm hqq
      go_wp2_with (at_builtin; refine wpList_append_own _ rfl _ _ 22 rfl w.heap.size 39 i0 (.int .u32 0) 1 4 Tryd.underlying22 hi hz0 hz1 hz2 rfl (by decide) _ _ _ rfl (I.own.alloc _) ⟨_, 0, none⟩ 1 1 [.int .u32 (m : Int)] rfl rfl ?c61 ?c62 ?c63 ?c64 ?c65 ?_)
      case c61 => exact cell_one_new _ _ _
      case c62 => first | rfl | (intro u hu; simp at hu; subst hu; rfl)
      case c63 => unfold maxLen; omega
      case c64 => omega
      case c65 => have := I.hz; simp; omega
      intro v' w3 hown' hgrow _
      have J := I.grown (x := m) hm hown' hgrow
      clear hown' hgrow
      go_wp2_with fail
      go_roundw
      case rel => exact ⟨k + 1, _, q, by omega, by go_num, rfl, hq, J, HA⟩
      case measure => simp [intOf]; omega
    · obtain rfl : k = a.length := by omega
      have em : (cr : Int) % 4294967296 = (cr : Int) := by omega
      go_wp2_with (at_builtin; refine wpList_append_own _ rfl _ _ 22 rfl w.heap.size 39 i0 (.int .u32 0) 1 4 Tryd.underlying22 hi hz0 hz1 hz2 rfl (by decide) _ _ _ rfl (I.own.alloc _) ⟨_, 0, none⟩ 1 1 [.int .u32 (cr : Int)] rfl rfl ?c71 ?c72 ?c73 ?c74 ?c75 ?_)
      case c71 => exact cell_one_new _ _ _
      case c72 => first | rfl | (intro u hu; simp at hu; subst hu; rfl)
      case c73 => unfold maxLen; omega
      case c74 => omega
      case c75 => have := I.hz; simp; omega
      intro v' w3 hown' hgrow _
      obtain ⟨A6, c6, hv6, hc6⟩ := own_slice hown'
      subst hv6
      have J := I.grown (x := cr) (by omega) hown' hgrow
      have HV : Hid (Kn.val (out ++ [cr]) = N) := Lib.hid (by have h := HI.out; rw [List.take_of_length_le (Nat.le_refl _), ← hN.out] at h; rw [Kn.app_end I.len]; exact h)
      clear hown' hgrow
      have HT : Hid (Calls Tryd.prog 30 #[.slice A6 (a.length + 1) c6] w3 (MagRes (N) w3)) := Lib.hid (by
        have h := rtrim_any A6 c6 _ w3 (J.sl hc6) (by rw [J.len]; omega)
        rw [J.len, HV.out] at h
        exact h)
      go_wp2_with fail
      refine HT.out.mono ?_
      rintro e w4 ⟨A7, c7, rfl, hS, hb4⟩
      go_wp2_with fail
      go_ret
      exact ⟨A7, c7, rfl, hS, J.bel.trans (hb4.mono J.bel.size)⟩

set_option maxRecDepth 100000 in
set_option maxHeartbeats 1000000 in
theorem rcompareWords_any (A : Option Addr) (ca : Nat) (n : Nat) (B : Option Addr) (cb : Nat) (m : Nat) (w : World) (P : Nat) (ha : Sl w P A ca (Kn.dig n)) (hb : Sl w P B cb (Kn.dig m)) (hla : (Kn.dig n).length ≤ 1000000000) (hlb : (Kn.dig m).length ≤ 1000000000) :
    Calls Tryd.prog 60 #[.slice A (Kn.dig n).length ca, .slice B (Kn.dig m).length cb] w fun e w' => e = .returned (.int .i64 (Kn.cmp n m)) ∧ ∃ q, w' = w.drewN q := by
  obtain ⟨a, hA⟩ : ∃ a, Hid (a = Kn.dig n) := ⟨_, Lib.hid rfl⟩
  obtain ⟨b, hB⟩ : ∃ b, Hid (b = Kn.dig m) := ⟨_, Lib.hid rfl⟩
  have hcn : ∀ x, x = Kn.cmp (Kn.val a) (Kn.val b) → x = Kn.cmp n m := fun x h => by rw [h, hA.out, hB.out, Kn.val_dig, Kn.val_dig]
  have HCN := Lib.hid hcn
  clear hcn
  have HLen : Hid (a.length ≠ b.length → Kn.cmp n m = Kn.cmp a.length b.length) := Lib.hid (fun h => by rw [hA.out, hB.out] at h ⊢; exact Kn.cmp_len h)
  rw [← hA.out] at ha hla ⊢
  rw [← hB.out] at hb hlb ⊢
  by_cases hl : a.length = b.length
  · have hle : ((a.length : Int) != (b.length : Int)) = false := by simp [hl]
    have hle2 : (a.length != b.length) = false := by simp [hl]
    have hbl : b.length ≤ a.length := by omega
    have hbl2 : a.length ≤ b.length := by omega
    have HL := Lib.hid hl
    clear hl
    go_enter Tryd.func60, Tryd.ntmps60
    go_wp2_with fail
    go_loopw [5] (fun v wr => ∃ k q : Nat, k ≤ a.length ∧ v = .int .i64 ((k : Int) - 1) ∧ wr = w.drewN q ∧ Hid (a.drop k = b.drop k)) (fun v _ => (intOf v + 1).toNat)
    case atStart => exact ⟨a.length, 0, Nat.le_refl _, rfl, rfl, Lib.hid (by rw [List.drop_of_length_le (Nat.le_refl _), List.drop_of_length_le (by have := HL.out; omega)])⟩
    case round =>
      obtain ⟨k, q, hk, rfl, rfl, HD⟩ := hrel
      by_cases hk0 : k = 0
      · subst hk0
        go_wp2_with fail
        go_ret
        exact ⟨ret_int (HCN.out _ (by have := HD.out; rw [List.drop_zero, List.drop_zero] at this; rw [this, Kn.cmp_self])), _, rfl⟩
      · have hk1 : 0 < k := by omega
        obtain ⟨b1, o1, x, rfl, hb1, hc1, hx, hxl⟩ := ha.word (k := k - 1) (by omega)
        obtain ⟨b2, o2, y, rfl, hb2, hc2, hy, hyl⟩ := hb.word (k := k - 1) (by omega)
        have e1 : ((k : Int) - 1).toNat = k - 1 := by omega
        have e2 : (0 : Int) ≤ (k : Int) - 1 := by omega
        have e3 : (k : Int) - 1 < (a.length : Int) := by omega
        have e4 : (k : Int) - 1 < (b.length : Int) := by omega
        have HC : Hid (x ≠ y → Kn.cmp x y = Kn.cmp (Kn.val a) (Kn.val b)) := Lib.hid (fun hxy => by
          rw [hx.out, hy.out] at hxy ⊢
          exact (Kn.cmp_at ha.wd hb.wd HL.out (by omega) (by rw [Nat.sub_add_cancel hk1]; exact HD.out) hxy).symm)
        clear hk0
        rcases Nat.lt_trichotomy x y with h | h | h
        · have t1 : decide (x < y) = true := by simp [h]
          have HN : Hid (-1 = Kn.cmp (Kn.val a) (Kn.val b)) := Lib.hid (by rw [← HC.out (by omega), Kn.cmp_lt h])
          go_wp2_with fail
          go_quiet (fail)
          go_wp2_with fail
          go_ret
          exact ⟨ret_int (HCN.out _ HN.out), _, by rw [World.drewN_drewN]⟩
        · subst h
          have HD' : Hid (a.drop (k - 1) = b.drop (k - 1)) := Lib.hid (Kn.drop_ext HL.out (by omega) (by rw [Nat.sub_add_cancel hk1]; exact HD.out) (by rw [← hx.out, ← hy.out]))
          go_wp2_with fail
          go_quiet (fail)
          go_wp2_with fail
          go_quiet (fail)
          go_wp2_with fail
          go_roundw
          case rel => exact ⟨k - 1, _, by omega, by go_num, rfl, HD'⟩
          case measure => simp [intOf]; omega
        · have t1 : decide (x < y) = false := by simp; omega
          have t2 : decide (y < x) = true := by simp [h]
          have HN : Hid (1 = Kn.cmp (Kn.val a) (Kn.val b)) := Lib.hid (by rw [← HC.out (by omega), Kn.cmp_gt h])
          go_wp2_with fail
          go_quiet (fail)
          go_wp2_with fail
          go_quiet (fail)
          go_wp2_with fail
          go_ret
          exact ⟨ret_int (HCN.out _ HN.out), _, by rw [World.drewN_drewN, World.drewN_drewN]⟩
  · rcases Nat.lt_or_gt_of_ne hl with h | h
    · have hle : ((a.length : Int) != (b.length : Int)) = true := by simp; omega
      have hle2 : (a.length != b.length) = true := by simp; omega
      have HC : Hid (-1 = Kn.cmp n m) := Lib.hid (by rw [HLen.out hl, Kn.cmp_lt h])
      clear hl
      go_enter Tryd.func60, Tryd.ntmps60
      go_wp2_with fail
      go_ret
      exact ⟨ret_int HC.out, 0, rfl⟩
    · have hle : ((a.length : Int) != (b.length : Int)) = true := by simp; omega
      have hle2 : (a.length != b.length) = true := by simp; omega
      have t1 : decide (a.length < b.length) = false := by simp; omega
      have HC : Hid (1 = Kn.cmp n m) := Lib.hid (by rw [HLen.out hl, Kn.cmp_gt h])
      clear hl
      go_enter Tryd.func60, Tryd.ntmps60
      go_wp2_with fail
      go_ret
      exact ⟨ret_int HC.out, 0, rfl⟩
end Go.Proofs.YtmhfdmidaheoeaaDoor
