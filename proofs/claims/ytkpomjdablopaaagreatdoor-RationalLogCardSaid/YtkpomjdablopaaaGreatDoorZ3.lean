/- My texts, packed: Wd, We, Wf, Shelf. -/
import Derived.Test.YtkpomjdablopaaaGreatDoorZ2
import Derived.Shelf.Strconv.AtoiAll
import Derived.Shelf.Small.Bits
import Derived.Shelf.Small.Wraps
import Derived.Shelf.Strings.Trim
import Derived.Shelf.LaysC
import Derived.Shelf.LaysM
import Derived.Shelf.Strings.Shaped
import Derived.Shelf.Strings.Prefix
import Derived.Shelf.Strconv.Itoa3
import Derived.Shelf.Strings.Cut
import Derived.Test.YtkpomjdablopaaaGreatDoorProg
/- Walks: the reference's word, addWords, subWords, timesWord, compareWords. -/
namespace Go.Proofs.YtkpomjdablopaaaGreatDoor
open Go.RowKit
set_option linter.unusedVariables false

set_option maxHeartbeats 400000 in
theorem rword_any (A : Option Addr) (c : Nat) (ws : List Nat) (k x : Nat) (w : World) (B : Nat) (h : Sl w B A c ws) (hl : ws.length ≤ 1000000000) (hk : k ≤ 1000000000) (hx : Hid (x = ws.getD k 0)) :
    Calls Tryz.prog 68 #[.slice A ws.length c, .int .i64 (k : Int)] w fun e w' => e = .returned (.int .u64 (x : Int)) ∧ w = w' := by
  by_cases hlt : k < ws.length
  · obtain ⟨b, off, y, rfl, hb, hc, hy, hyl⟩ := h.word hlt
    have hxy : Hid (y = x) := Lib.hid (by rw [hx.out, hy.out])
    go_enter Tryz.func68, Tryz.ntmps68
    go_wp2
    go_ret
    exact ⟨ret_int (by rw [hxy.out]), rfl⟩
  · have hlt2 : decide (k < ws.length) = false := by simp; omega
    have hx0 : Hid (x = 0) := Lib.hid (by rw [hx.out, List.getD_eq_getElem?_getD, List.getElem?_eq_none (by omega)]; rfl)
    go_enter Tryz.func68, Tryz.ntmps68
    go_wp2
    go_ret
    exact ⟨ret_int (by rw [hx0.out]; rfl), rfl⟩

/-- a row that the call appends to -/
structure Ap (w wr : World) (v : Value) (n : Nat) (l : List Nat) : Prop where
  own : wr.ownsRow w.heap.size 88 1 v n (u32s l)
  len : l.length = n
  wd : Kn.Wd l
  hz : w.heap.size ≤ wr.heap.size
  bel : Below w.heap.size w wr
theorem u32s_snoc (l : List Nat) (x : Nat) : u32s (l ++ [x]) = u32s l ++ [.int .u32 (x : Int)] := by unfold u32s; rw [List.map_append]; rfl
theorem Ap.new_ (w : World) : Ap w (w.alloc (.cells #[] 88)) (.slice (some ⟨w.heap.size, 0, none⟩) 0 0) 0 [] :=
  ⟨World.ownsRow_made (e := 88) (size := 1) (base := w.heap.size) w #[] 0 (Nat.le_refl _) (by unfold maxLen; omega) rfl, rfl, Kn.Wd.nil, by simp, al1 _ _⟩
theorem Ap.grown {w wr w3 : World} {v v' : Value} {n : Nat} {l : List Nat} {x : Nat} {o : Obj} (h : Ap w wr v n l) (hx : x < 4294967296)
    (ho : w3.ownsRow w.heap.size 88 1 v' (n + 1) (u32s l ++ [.int .u32 (x : Int)])) (hg : (wr.alloc o).grownBy w3 v.ownBlock) : Ap w w3 v' (n + 1) (l ++ [x]) := by
  have hz := h.hz
  have hge : ∀ k, v.ownBlock = some k → w.heap.size ≤ k := fun k e => (h.own.lt k e).1
  refine ⟨by rw [u32s_snoc]; exact ho, by rw [List.length_append, h.len]; rfl, h.wd.append (Kn.Wd.cons hx Kn.Wd.nil), by have := hg.size; simp at this; omega, (h.bel.alloc hz o).grown hg (by simp; omega) hge⟩
theorem Ap.sl {w wr : World} {A : Option Addr} {c n : Nat} {l : List Nat} (h : Ap w wr (.slice A n c) n l) (hc : n ≤ c) : Sl wr wr.heap.size A c l := Sl.of_own h.own h.wd hc h.len

set_option maxRecDepth 100000 in
set_option maxHeartbeats 2000000 in
theorem raddWords_any (A : Option Addr) (ca : Nat) (a : List Nat) (B : Option Addr) (cb : Nat) (b : List Nat) (w : World) (ha : Sl w w.heap.size A ca a) (hb : Sl w w.heap.size B cb b) (hla : a.length ≤ 99999999) (hlb : b.length ≤ 99999999) :
    Calls Tryz.prog 113 #[.slice A a.length ca, .slice B b.length cb] w (MagRes (Kn.val a + Kn.val b) w) := by
  obtain ⟨i0, hi, hz0, hz1, hz2⟩ := info_parts infoU32
  go_enter Tryz.func113, Tryz.ntmps113
  go_wp2_with fail
  have I0 := Ap.new_ w
  revert I0
  generalize w.alloc (.cells #[] 88) = w1
  intro I0
  go_loopw [5, 6, 7] (fun ov cv iv wr => ∃ k out cr, k ≤ max a.length b.length ∧ iv = .int .i64 (k : Nat) ∧ cv = .int .u64 (cr : Nat) ∧ cr ≤ 1 ∧ Ap w wr ov k out ∧ Hid (Kn.val out + Kn.pw k * cr = Kn.val (a.take k) + Kn.val (b.take k))) (fun _ _ iv _ => max a.length b.length - (intOf iv).toNat)
  case atStart => exact ⟨0, [], 0, by simp, rfl, rfl, by omega, I0, Lib.hid (by simp [Kn.val])⟩
  case round =>
    obtain ⟨k, out, cr, hk, rfl, rfl, hcr, I, HI⟩ := hrel
    obtain ⟨A5, c5, hv5, hc5⟩ := own_slice I.own
    subst hv5
    have hX := (ha.below I.bel)
    have hY := (hb.below I.bel)
    by_cases hlt : k < max a.length b.length
    · obtain ⟨x, hx⟩ : ∃ x, Hid (x = a.getD k 0) := ⟨_, Lib.hid rfl⟩
      obtain ⟨y, hy⟩ : ∃ y, Hid (y = b.getD k 0) := ⟨_, Lib.hid rfl⟩
      have hxl : x < 4294967296 := by rw [hx.out]; exact ha.wd.getD _
      have hyl : y < 4294967296 := by rw [hy.out]; exact hb.wd.getD _
      obtain ⟨m, hmm⟩ : ∃ m, m = (x + y + cr) % 4294967296 := ⟨_, rfl⟩
      obtain ⟨q, hqq⟩ : ∃ q, q = (x + y + cr) / 4294967296 := ⟨_, rfl⟩
      have HA : Hid (Kn.val (out ++ [m]) + Kn.pw (k + 1) * q = Kn.val (a.take (k + 1)) + Kn.val (b.take (k + 1))) := Lib.hid (by rw [hmm, hqq]; exact Kn.add_app I.len HI.out (by rw [← hx.out, ← hy.out]; omega))
      have hm : m < 4294967296 := by omega
      have hq : q ≤ 1 := by omega
      have em : ((x : Int) + (y : Int) + (cr : Int)) % 4294967296 = (m : Int) := by omega
      have eq : ((x : Int) + (y : Int) + (cr : Int)) / 4294967296 = (q : Int) := by omega
      have HM := Lib.hid hmm
      have HQ := Lib.hid hqq
      clear hmm hqq
      by_cases hka : k < a.length
      · have d1 : decide (k < a.length) = true := by simp [hka]
        go_wp2_with (first
          | (go_at_call 68; (with_reducible refine (rword_any A ca a k x _ _ hX (by omega) (by omega) hx).mono ?_); rintro e w' ⟨rfl, rfl⟩)
          | (go_at_call 68; (with_reducible refine (rword_any B cb b k y _ _ hY (by omega) (by omega) hy).mono ?_); rintro e w' ⟨rfl, rfl⟩)
          | (at_builtin; refine wpList_append_own _ rfl _ _ 22 rfl w.heap.size 88 i0 (.int .u32 0) 1 4 Tryz.underlying22 hi hz0 hz1 hz2 rfl (by decide) _ _ _ rfl (I.own.alloc _) ⟨_, 0, none⟩ 1 1 [.int .u32 (m : Int)] rfl rfl ?c11 ?c12 ?c13 ?c14 ?c15 ?_))
        case c11 => exact cell_one_new _ _ _
        case c12 => first | rfl | (intro u hu; simp at hu; subst hu; rfl)
        case c13 => unfold maxLen; omega
        case c14 => omega
        case c15 => have := I.hz; simp; omega
        intro v' w3 hown' hgrow _
        have J := I.grown (x := m) hm hown' hgrow
        clear hown' hgrow
        go_wp2_with fail
        go_roundw
        case rel => exact ⟨k + 1, _, q, by omega, by go_num, rfl, hq, J, HA⟩
        case measure => simp [intOf]; omega
      · have d1 : decide (k < a.length) = false := by simp; omega
        have hkb : k < b.length := by omega
        have d2 : decide (k < b.length) = true := by simp [hkb]
        go_wp2_with (first
          | (go_at_call 68; (with_reducible refine (rword_any A ca a k x _ _ hX (by omega) (by omega) hx).mono ?_); rintro e w' ⟨rfl, rfl⟩)
          | (go_at_call 68; (with_reducible refine (rword_any B cb b k y _ _ hY (by omega) (by omega) hy).mono ?_); rintro e w' ⟨rfl, rfl⟩)
          | (at_builtin; refine wpList_append_own _ rfl _ _ 22 rfl w.heap.size 88 i0 (.int .u32 0) 1 4 Tryz.underlying22 hi hz0 hz1 hz2 rfl (by decide) _ _ _ rfl (I.own.alloc _) ⟨_, 0, none⟩ 1 1 [.int .u32 (m : Int)] rfl rfl ?c21 ?c22 ?c23 ?c24 ?c25 ?_))
        case c21 => exact cell_one_new _ _ _
        case c22 => first | rfl | (intro u hu; simp at hu; subst hu; rfl)
        case c23 => unfold maxLen; omega
        case c24 => omega
        case c25 => have := I.hz; simp; omega
        intro v' w3 hown' hgrow _
        have J := I.grown (x := m) hm hown' hgrow
        clear hown' hgrow
        go_wp2_with fail
        go_roundw
        case rel => exact ⟨k + 1, _, q, by omega, by go_num, rfl, hq, J, HA⟩
        case measure => simp [intOf]; omega
    · have d1 : decide (k < a.length) = false := by simp; omega
      have d2 : decide (k < b.length) = false := by simp; omega
      have em : (cr : Int) % 4294967296 = (cr : Int) := by omega
      have hka : a.length ≤ k := by omega
      have hkb : b.length ≤ k := by omega
      go_wp2_with (at_builtin; refine wpList_append_own _ rfl _ _ 22 rfl w.heap.size 88 i0 (.int .u32 0) 1 4 Tryz.underlying22 hi hz0 hz1 hz2 rfl (by decide) _ _ _ rfl (I.own.alloc _) ⟨_, 0, none⟩ 1 1 [.int .u32 (cr : Int)] rfl rfl ?c31 ?c32 ?c33 ?c34 ?c35 ?_)
      case c31 => exact cell_one_new _ _ _
      case c32 => first | rfl | (intro u hu; simp at hu; subst hu; rfl)
      case c33 => unfold maxLen; omega
      case c34 => omega
      case c35 => have := I.hz; simp; omega
      intro v' w3 hown' hgrow _
      obtain ⟨A6, c6, hv6, hc6⟩ := own_slice hown'
      subst hv6
      have J := I.grown (x := cr) (by omega) hown' hgrow
      have HV : Hid (Kn.val (out ++ [cr]) = Kn.val a + Kn.val b) := Lib.hid (by have h := HI.out; rw [List.take_of_length_le hka, List.take_of_length_le hkb] at h; rw [Kn.app_end I.len]; exact h)
      clear hown' hgrow
      have HT : Hid (Calls Tryz.prog 66 #[.slice A6 (k + 1) c6] w3 (MagRes (Kn.val a + Kn.val b) w3)) := Lib.hid (by
        have h := rtrim_any A6 c6 _ w3 (J.sl hc6) (by rw [J.len]; omega)
        rw [J.len, HV.out] at h
        exact h)
      go_wp2_with fail
      refine HT.out.mono ?_
      rintro e w4 ⟨A7, c7, rfl, hS, hb4⟩
      go_wp2_with fail
      go_ret
      exact ⟨A7, c7, rfl, hS, J.bel.trans (hb4.mono J.bel.size)⟩

set_option maxRecDepth 100000 in
set_option maxHeartbeats 2000000 in
theorem rsubWords_any (A : Option Addr) (ca : Nat) (a : List Nat) (B : Option Addr) (cb : Nat) (b : List Nat) (w : World) (ha : Sl w w.heap.size A ca a) (hb : Sl w w.heap.size B cb b) (hla : a.length ≤ 99999999) (hba : b.length ≤ a.length) (hle : Hid (Kn.val b ≤ Kn.val a)) :
    Calls Tryz.prog 111 #[.slice A a.length ca, .slice B b.length cb] w (MagRes (Kn.val a - Kn.val b) w) := by
  obtain ⟨i0, hi, hz0, hz1, hz2⟩ := info_parts infoU32
  go_enter Tryz.func111, Tryz.ntmps111
  go_wp2_with fail
  have I0 := Ap.new_ w
  revert I0
  generalize w.alloc (.cells #[] 88) = w1
  intro I0
  go_loopw [5, 6, 7] (fun ov cv iv wr => ∃ k out cr, k ≤ a.length ∧ iv = .int .i64 (k : Nat) ∧ cv = .int .u64 (cr : Nat) ∧ cr ≤ 1 ∧ Ap w wr ov k out ∧ Hid (Kn.val out + Kn.val (b.take k) = Kn.val (a.take k) + Kn.pw k * cr)) (fun _ _ iv _ => a.length - (intOf iv).toNat)
  case atStart => exact ⟨0, [], 0, by simp, rfl, rfl, by omega, I0, Lib.hid (by simp [Kn.val])⟩
  case round =>
    obtain ⟨k, out, cr, hk, rfl, rfl, hcr, I, HI⟩ := hrel
    obtain ⟨A5, c5, hv5, hc5⟩ := own_slice I.own
    subst hv5
    have hX := (ha.below I.bel)
    have hY := (hb.below I.bel)
    by_cases hlt : k < a.length
    · obtain ⟨x, hx⟩ : ∃ x, Hid (x = a.getD k 0) := ⟨_, Lib.hid rfl⟩
      obtain ⟨y, hy⟩ : ∃ y, Hid (y = b.getD k 0) := ⟨_, Lib.hid rfl⟩
      have hxl : x < 4294967296 := by rw [hx.out]; exact ha.wd.getD _
      have hyl : y < 4294967296 := by rw [hy.out]; exact hb.wd.getD _
      obtain ⟨m, hmm⟩ : ∃ m, m = (4294967296 + x - y - cr) % 4294967296 := ⟨_, rfl⟩
      obtain ⟨t, htt⟩ : ∃ t, t = (4294967296 + x - y - cr) / 4294967296 := ⟨_, rfl⟩
      obtain ⟨q, hqq⟩ : ∃ q, q = 1 - t := ⟨_, rfl⟩
      have HA : Hid (Kn.val (out ++ [m]) + Kn.val (b.take (k + 1)) = Kn.val (a.take (k + 1)) + Kn.pw (k + 1) * q) := Lib.hid (Kn.sub_app I.len HI.out (by rw [← hx.out, ← hy.out]; omega))
      have hm : m < 4294967296 := by omega
      have ht : t ≤ 1 := by omega
      have hq : q ≤ 1 := by omega
      have em : (4294967296 + (x : Int) - (y : Int) - (cr : Int)) % 4294967296 = (m : Int) := by omega
      have et : (4294967296 + (x : Int) - (y : Int) - (cr : Int)) / 4294967296 = (t : Int) := by omega
      have eq : (1 : Int) - (t : Int) = (q : Int) := by omega
      have HM := Lib.hid hmm
      have HQ := Lib.hid hqq
      have HT := Lib.hid htt
      clear hmm hqq htt
      go_wp2_with (first
        | (go_at_call 68; (with_reducible refine (rword_any A ca a k x _ _ hX (by omega) (by omega) hx).mono ?_); rintro e w' ⟨rfl, rfl⟩)
        | (go_at_call 68; (with_reducible refine (rword_any B cb b k y _ _ hY (by omega) (by omega) hy).mono ?_); rintro e w' ⟨rfl, rfl⟩)
        | (at_builtin; refine wpList_append_own _ rfl _ _ 22 rfl w.heap.size 88 i0 (.int .u32 0) 1 4 Tryz.underlying22 hi hz0 hz1 hz2 rfl (by decide) _ _ _ rfl (I.own.alloc _) ⟨_, 0, none⟩ 1 1 [.int .u32 (m : Int)] rfl rfl ?c51 ?c52 ?c53 ?c54 ?c55 ?_))
      case c51 => exact cell_one_new _ _ _
      case c52 => first | rfl | (intro u hu; simp at hu; subst hu; rfl)
      case c53 => unfold maxLen; omega
      case c54 => omega
      case c55 => have := I.hz; simp; omega
      intro v' w3 hown' hgrow _
      have J := I.grown (x := m) hm hown' hgrow
      clear hown' hgrow
      go_wp2_with fail
      go_roundw
      case rel => exact ⟨k + 1, _, q, by omega, by go_num, rfl, hq, J, HA⟩
      case measure => simp [intOf]; omega
    · obtain rfl : k = a.length := by omega
      have HV : Hid (Kn.val out = Kn.val a - Kn.val b) := Lib.hid (Kn.sub_end I.wd I.len hba HI.out hle.out hcr)
      have HTR : Hid (Calls Tryz.prog 66 #[.slice A5 a.length c5] wr (MagRes (Kn.val a - Kn.val b) wr)) := Lib.hid (by
        have h := rtrim_any A5 c5 _ wr (I.sl hc5) (by rw [I.len]; omega)
        rw [I.len, HV.out] at h
        exact h)
      go_wp2_with fail
      refine HTR.out.mono ?_
      rintro e w4 ⟨A7, c7, rfl, hS, hb4⟩
      go_wp2_with fail
      go_ret
      exact ⟨A7, c7, rfl, hS, I.bel.trans (hb4.mono I.bel.size)⟩

set_option maxRecDepth 100000 in
set_option maxHeartbeats 2000000 in
theorem rtimesWord_any (A : Option Addr) (ca : Nat) (a : List Nat) (d : Nat) (w : World) (ha : Sl w w.heap.size A ca a) (hla : a.length ≤ 99999999) (hd : d < 4294967297) :
    Calls Tryz.prog 110 #[.slice A a.length ca, .int .u64 (d : Int)] w (MagRes (Kn.val a * d) w) := by
  obtain ⟨N, hN⟩ : ∃ N, Hid (N = Kn.val a * d) := ⟨_, Lib.hid rfl⟩
  rw [← hN.out]
  obtain ⟨i0, hi, hz0, hz1, hz2⟩ := info_parts infoU32
  go_enter Tryz.func110, Tryz.ntmps110
  go_wp2_with fail
  have I0 := Ap.new_ w
  revert I0
  generalize w.alloc (.cells #[] 88) = w1
  intro I0
  go_loopw [5, 6, 7] (fun ov cv iv wr => ∃ k out cr, k ≤ a.length ∧ iv = .int .i64 (k : Nat) ∧ cv = .int .u64 (cr : Nat) ∧ cr < 4294967296 ∧ Ap w wr ov k out ∧ Hid (Kn.val out + Kn.pw k * cr = Kn.val (a.take k) * d)) (fun _ _ iv _ => a.length - (intOf iv).toNat)
  case atStart => exact ⟨0, [], 0, by simp, rfl, rfl, by omega, I0, Lib.hid (by simp [Kn.val])⟩
  case round =>
    obtain ⟨k, out, cr, hk, rfl, rfl, hcr, I, HI⟩ := hrel
    obtain ⟨A5, c5, hv5, hc5⟩ := own_slice I.own
    subst hv5
    have hX := (ha.below I.bel)
    by_cases hlt : k < a.length
    · obtain ⟨b1, o1, x, rfl, hb1, hc1, hx, hxl⟩ := hX.word hlt
      obtain ⟨p, hp⟩ : ∃ p : Nat, Hid (p = x * d) := ⟨_, Lib.hid rfl⟩
      have hpl : p ≤ 18446744069414584320 := by rw [hp.out]; exact Nat.le_trans (Nat.mul_le_mul (show x ≤ 4294967295 by omega) (show d ≤ 4294967296 by omega)) (by decide)
      have hpw : IntKind.u64.wrap ((x : Int) * (d : Int)) = (p : Int) := by rw [← Int.natCast_mul, ← hp.out]; exact wrap_nat (by omega)
      obtain ⟨m, hmm⟩ : ∃ m, m = (p + cr) % 4294967296 := ⟨_, rfl⟩
      obtain ⟨q, hqq⟩ : ∃ q, q = (p + cr) / 4294967296 := ⟨_, rfl⟩
      have HA : Hid (Kn.val (out ++ [m]) + Kn.pw (k + 1) * q = Kn.val (a.take (k + 1)) * d) := Lib.hid (by rw [hmm, hqq]; exact Kn.times_app I.len HI.out (by rw [← hx.out, hp.out]))
      have hm : m < 4294967296 := by omega
      have hq : q < 4294967296 := by omega
      have es : IntKind.u64.wrap ((p : Int) + (cr : Int)) = (p : Int) + (cr : Int) := by have := wrap_nat (n := p + cr) (by omega); rwa [Int.natCast_add] at this
      have em : ((p : Int) + (cr : Int)) % 4294967296 = (m : Int) := by omega
      have eq : ((p : Int) + (cr : Int)) / 4294967296 = (q : Int) := by omega
      have HM := Lib.hid hmm
      have HQ := Lib.hid hqq
      clear hmm hqq
      go_wp2_with (at_builtin; refine wpList_append_own _ rfl _ _ 22 rfl w.heap.size 88 i0 (.int .u32 0) 1 4 Tryz.underlying22 hi hz0 hz1 hz2 rfl (by decide) _ _ _ rfl (I.own.alloc _) ⟨_, 0, none⟩ 1 1 [.int .u32 (m : Int)] rfl rfl ?c61 ?c62 ?c63 ?c64 ?c65 ?_)
      case c61 => exact cell_one_new _ _ _
      case c62 => first | rfl | (intro u hu; simp at hu; subst hu; rfl)
      case c63 => unfold maxLen; omega
      case c64 => omega
      case c65 => have := I.hz; simp; omega
      intro v' w3 hown' hgrow _
      have J := I.grown (x := m) hm hown' hgrow
      clear hown' hgrow
      go_wp2_with fail
      go_roundw
      case rel => exact ⟨k + 1, _, q, by omega, by go_num, rfl, hq, J, HA⟩
      case measure => simp [intOf]; omega
    · obtain rfl : k = a.length := by omega
      have em : (cr : Int) % 4294967296 = (cr : Int) := by omega
      go_wp2_with (at_builtin; refine wpList_append_own _ rfl _ _ 22 rfl w.heap.size 88 i0 (.int .u32 0) 1 4 Tryz.underlying22 hi hz0 hz1 hz2 rfl (by decide) _ _ _ rfl (I.own.alloc _) ⟨_, 0, none⟩ 1 1 [.int .u32 (cr : Int)] rfl rfl ?c71 ?c72 ?c73 ?c74 ?c75 ?_)
      case c71 => exact cell_one_new _ _ _
      case c72 => first | rfl | (intro u hu; simp at hu; subst hu; rfl)
      case c73 => unfold maxLen; omega
      case c74 => omega
      case c75 => have := I.hz; simp; omega
      intro v' w3 hown' hgrow _
      obtain ⟨A6, c6, hv6, hc6⟩ := own_slice hown'
      subst hv6
      have J := I.grown (x := cr) (by omega) hown' hgrow
      have HV : Hid (Kn.val (out ++ [cr]) = N) := Lib.hid (by have h := HI.out; rw [List.take_of_length_le (Nat.le_refl _), ← hN.out] at h; rw [Kn.app_end I.len]; exact h)
      clear hown' hgrow
      have HT : Hid (Calls Tryz.prog 66 #[.slice A6 (a.length + 1) c6] w3 (MagRes (N) w3)) := Lib.hid (by
        have h := rtrim_any A6 c6 _ w3 (J.sl hc6) (by rw [J.len]; omega)
        rw [J.len, HV.out] at h
        exact h)
      go_wp2_with fail
      refine HT.out.mono ?_
      rintro e w4 ⟨A7, c7, rfl, hS, hb4⟩
      go_wp2_with fail
      go_ret
      exact ⟨A7, c7, rfl, hS, J.bel.trans (hb4.mono J.bel.size)⟩

set_option maxRecDepth 100000 in
set_option maxHeartbeats 1000000 in
theorem rcompareWords_any (A : Option Addr) (ca : Nat) (n : Nat) (B : Option Addr) (cb : Nat) (m : Nat) (w : World) (P : Nat) (ha : Sl w P A ca (Kn.dig n)) (hb : Sl w P B cb (Kn.dig m)) (hla : (Kn.dig n).length ≤ 1000000000) (hlb : (Kn.dig m).length ≤ 1000000000) :
    Calls Tryz.prog 109 #[.slice A (Kn.dig n).length ca, .slice B (Kn.dig m).length cb] w fun e w' => e = .returned (.int .i64 (Kn.cmp n m)) ∧ ∃ q, w' = w.drewN q := by
  obtain ⟨a, hA⟩ : ∃ a, Hid (a = Kn.dig n) := ⟨_, Lib.hid rfl⟩
  obtain ⟨b, hB⟩ : ∃ b, Hid (b = Kn.dig m) := ⟨_, Lib.hid rfl⟩
  have hcn : ∀ x, x = Kn.cmp (Kn.val a) (Kn.val b) → x = Kn.cmp n m := fun x h => by rw [h, hA.out, hB.out, Kn.val_dig, Kn.val_dig]
  have HCN := Lib.hid hcn
  clear hcn
  have HLen : Hid (a.length ≠ b.length → Kn.cmp n m = Kn.cmp a.length b.length) := Lib.hid (fun h => by rw [hA.out, hB.out] at h ⊢; exact Kn.cmp_len h)
  rw [← hA.out] at ha hla ⊢
  rw [← hB.out] at hb hlb ⊢
  by_cases hl : a.length = b.length
  · have hle : ((a.length : Int) != (b.length : Int)) = false := by simp [hl]
    have hle2 : (a.length != b.length) = false := by simp [hl]
    have hbl : b.length ≤ a.length := by omega
    have hbl2 : a.length ≤ b.length := by omega
    have HL := Lib.hid hl
    clear hl
    go_enter Tryz.func109, Tryz.ntmps109
    go_wp2_with fail
    go_loopw [5] (fun v wr => ∃ k q : Nat, k ≤ a.length ∧ v = .int .i64 ((k : Int) - 1) ∧ wr = w.drewN q ∧ Hid (a.drop k = b.drop k)) (fun v _ => (intOf v + 1).toNat)
    case atStart => exact ⟨a.length, 0, Nat.le_refl _, rfl, rfl, Lib.hid (by rw [List.drop_of_length_le (Nat.le_refl _), List.drop_of_length_le (by have := HL.out; omega)])⟩
    case round =>
      obtain ⟨k, q, hk, rfl, rfl, HD⟩ := hrel
      by_cases hk0 : k = 0
      · subst hk0
        go_wp2_with fail
        go_ret
        exact ⟨ret_int (HCN.out _ (by have := HD.out; rw [List.drop_zero, List.drop_zero] at this; rw [this, Kn.cmp_self])), _, rfl⟩
      · have hk1 : 0 < k := by omega
        obtain ⟨b1, o1, x, rfl, hb1, hc1, hx, hxl⟩ := ha.word (k := k - 1) (by omega)
        obtain ⟨b2, o2, y, rfl, hb2, hc2, hy, hyl⟩ := hb.word (k := k - 1) (by omega)
        have e1 : ((k : Int) - 1).toNat = k - 1 := by omega
        have e2 : (0 : Int) ≤ (k : Int) - 1 := by omega
        have e3 : (k : Int) - 1 < (a.length : Int) := by omega
        have e4 : (k : Int) - 1 < (b.length : Int) := by omega
        have HC : Hid (x ≠ y → Kn.cmp x y = Kn.cmp (Kn.val a) (Kn.val b)) := Lib.hid (fun hxy => by
          rw [hx.out, hy.out] at hxy ⊢
          exact (Kn.cmp_at ha.wd hb.wd HL.out (by omega) (by rw [Nat.sub_add_cancel hk1]; exact HD.out) hxy).symm)
        clear hk0
        rcases Nat.lt_trichotomy x y with h | h | h
        · have t1 : decide (x < y) = true := by simp [h]
          have HN : Hid (-1 = Kn.cmp (Kn.val a) (Kn.val b)) := Lib.hid (by rw [← HC.out (by omega), Kn.cmp_lt h])
          go_wp2_with fail
          go_quiet (fail)
          go_wp2_with fail
          go_ret
          exact ⟨ret_int (HCN.out _ HN.out), _, by rw [World.drewN_drewN]⟩
        · subst h
          have HD' : Hid (a.drop (k - 1) = b.drop (k - 1)) := Lib.hid (Kn.drop_ext HL.out (by omega) (by rw [Nat.sub_add_cancel hk1]; exact HD.out) (by rw [← hx.out, ← hy.out]))
          go_wp2_with fail
          go_quiet (fail)
          go_wp2_with fail
          go_quiet (fail)
          go_wp2_with fail
          go_roundw
          case rel => exact ⟨k - 1, _, by omega, by go_num, rfl, HD'⟩
          case measure => simp [intOf]; omega
        · have t1 : decide (x < y) = false := by simp; omega
          have t2 : decide (y < x) = true := by simp [h]
          have HN : Hid (1 = Kn.cmp (Kn.val a) (Kn.val b)) := Lib.hid (by rw [← HC.out (by omega), Kn.cmp_gt h])
          go_wp2_with fail
          go_quiet (fail)
          go_wp2_with fail
          go_quiet (fail)
          go_wp2_with fail
          go_ret
          exact ⟨ret_int (HCN.out _ HN.out), _, by rw [World.drewN_drewN, World.drewN_drewN]⟩
  · rcases Nat.lt_or_gt_of_ne hl with h | h
    · have hle : ((a.length : Int) != (b.length : Int)) = true := by simp; omega
      have hle2 : (a.length != b.length) = true := by simp; omega
      have HC : Hid (-1 = Kn.cmp n m) := Lib.hid (by rw [HLen.out hl, Kn.cmp_lt h])
      clear hl
      go_enter Tryz.func109, Tryz.ntmps109
      go_wp2_with fail
      go_ret
      exact ⟨ret_int HC.out, 0, rfl⟩
    · have hle : ((a.length : Int) != (b.length : Int)) = true := by simp; omega
      have hle2 : (a.length != b.length) = true := by simp; omega
      have t1 : decide (a.length < b.length) = false := by simp; omega
      have HC : Hid (1 = Kn.cmp n m) := Lib.hid (by rw [HLen.out hl, Kn.cmp_gt h])
      clear hl
      go_enter Tryz.func109, Tryz.ntmps109
      go_wp2_with fail
      go_ret
      exact ⟨ret_int HC.out, 0, rfl⟩
end Go.Proofs.YtkpomjdablopaaaGreatDoor
/- Walks: the reference's Add, Sub, Compare. -/
namespace Go.Proofs.YtkpomjdablopaaaGreatDoor
open Go.RowKit
set_option linter.unusedVariables false

theorem rcompare_lt (A : Option Addr) (ca : Nat) (n : Nat) (B : Option Addr) (cb : Nat) (m : Nat) (w : World) (P : Nat) (ha : Sl w P A ca (Kn.dig n)) (hb : Sl w P B cb (Kn.dig m)) (hla : (Kn.dig n).length ≤ 1000000000) (hlb : (Kn.dig m).length ≤ 1000000000) (h : n < m) :
    Calls Tryz.prog 109 #[.slice A (Kn.dig n).length ca, .slice B (Kn.dig m).length cb] w fun e w' => e = .returned (.int .i64 (-1)) ∧ ∃ q, w' = w.drewN q := by
  have := rcompareWords_any A ca n B cb m w P ha hb hla hlb
  rwa [Kn.cmp_lt h] at this
theorem rcompare_ge (A : Option Addr) (ca : Nat) (n : Nat) (B : Option Addr) (cb : Nat) (m : Nat) (w : World) (P : Nat) (ha : Sl w P A ca (Kn.dig n)) (hb : Sl w P B cb (Kn.dig m)) (hla : (Kn.dig n).length ≤ 1000000000) (hlb : (Kn.dig m).length ≤ 1000000000) (h : m ≤ n) :
    Calls Tryz.prog 109 #[.slice A (Kn.dig n).length ca, .slice B (Kn.dig m).length cb] w fun e w' => ∃ c : Nat, e = .returned (.int .i64 (c : Int)) ∧ ∃ q, w' = w.drewN q := by
  have := rcompareWords_any A ca n B cb m w P ha hb hla hlb
  rcases Nat.eq_or_lt_of_le h with h | h
  · rw [h, Kn.cmp_self] at this
    rw [h]
    exact this.mono fun _ _ ⟨he, hq⟩ => ⟨0, he, hq⟩
  · rw [Kn.cmp_gt h] at this
    exact this.mono fun _ _ ⟨he, hq⟩ => ⟨1, he, hq⟩
theorem Sl.drewN_ {w : World} {A : Option Addr} {c : Nat} {ws : List Nat} (h : Sl w w.heap.size A c ws) (n : Nat) : Sl (w.drewN n) (w.drewN n).heap.size A c ws := h.drewN n
theorem dig_len_ge {n m : Nat} (h : m ≤ n) : (Kn.dig m).length ≤ (Kn.dig n).length := by
  rcases Nat.lt_or_ge (Kn.dig n).length (Kn.dig m).length with h1 | h1
  · have := Kn.dig_mono h1; omega
  · exact h1

set_option maxRecDepth 100000 in
set_option maxHeartbeats 2000000 in
theorem radd_any (nx : Bool) (A : Option Addr) (ca : Nat) (xs : List Nat) (ny : Bool) (B : Option Addr) (cb : Nat) (ys : List Nat) (w : World) (hx : Sl w w.heap.size A ca xs) (hy : Sl w w.heap.size B cb ys) (hlx : xs.length ≤ 99999999) (hly : ys.length ≤ 99999999) :
    Calls Tryz.prog 74 #[intV nx A xs.length ca, intV ny B ys.length cb] w (IntRes (Kn.iv nx xs + Kn.iv ny ys) w) := by
  have hdx : (Kn.dig (Kn.val xs)).length ≤ 99999999 := Nat.le_trans (Kn.dig_len_val hx.wd) hlx
  have hdy : (Kn.dig (Kn.val ys)).length ≤ 99999999 := Nat.le_trans (Kn.dig_len_val hy.wd) hly
  have hvx := Lib.hid (Kn.val_dig (Kn.val xs))
  have hvy := Lib.hid (Kn.val_dig (Kn.val ys))
  obtain ⟨z, hz⟩ : ∃ z : Int, z = Kn.iv nx xs + Kn.iv ny ys := ⟨_, rfl⟩
  rw [← hz]
  have HZ := Lib.hid hz
  clear hz
  unfold intV
  by_cases hs : nx = ny
  · subst hs
    go_enter Tryz.func74, Tryz.ntmps74
    go_wp2_with fail
    have i := B3.new_ w nx A xs.length ca nx B ys.length cb 24
    revert i
    generalize ((w.alloc (.cells #[.bool nx, .slice A xs.length ca] 24)).alloc (.cells #[.bool nx, .slice B ys.length cb] 24)).alloc (.cells #[.bool false, .slice none 0 0] 24) = wx
    intro i
    replace i := i.drew
    go_region_held3 (fun w' => w'.cell? ⟨w.heap.size, 1, none⟩ = some (.slice A xs.length ca) ∧ w'.cell? ⟨w.heap.size + 1, 1, none⟩ = some (.slice B ys.length cb))
      (exact ⟨i.t1.c1, i.t2.c1⟩)
      (first
        | (go_at_call 66; (with_reducible refine (rtrim_any A ca xs _ ((hx.below i.bel).more i.bel.size) (by omega)).mono ?_); rintro e wA ⟨A2, c2, rfl, hSx, hbx⟩; replace i := i.below hbx; (try (replace hSy := hSy.at_ hbx (Nat.le_refl _))))
        | (go_at_call 66; (with_reducible refine (rtrim_any B cb ys _ ((hy.below i.bel).more i.bel.size) (by omega)).mono ?_); rintro e wB ⟨B2, d2, rfl, hSy, hby⟩; replace i := i.below hby; (try (replace hSx := hSx.at_ hby (Nat.le_refl _)))))
    all_goals
      have c10 := i.t1.c0
      have c20 := i.t2.c0
      go_wp2_with fail
      clear c10 c20
      replace i := i.drew
      replace hSx : Sl _ _ A2 c2 (Kn.dig (Kn.val xs)) := hSx.drew
      replace hSy : Sl _ _ B2 d2 (Kn.dig (Kn.val ys)) := hSy.drew
      go_region_held3 (fun w' => w'.cell? ⟨w.heap.size, 0, none⟩ = some (.bool nx))
        (first | exact i.t1.c0 | exact ((i.t1.far (by simp; omega) _).far (by simp; omega) _).c0 | exact ((i.t1.far (by simp) _).far (by simp) _).c0)
        (first
          | (go_at_call 113; refine (raddWords_any A2 c2 _ B2 d2 _ _ hSx hSy (by omega) (by omega)).mono ?_; rintro e w3 ⟨A3, c3, rfl, hS, hb3⟩; replace i := i.below hb3; rw [hvx.out, hvy.out] at hS ⊢)
          | (go_at_call 76; refine (made_any nx A3 c3 _ _ hS (by have := dig_len_add hx.wd hy.wd; omega)).mono ?_; rintro e w4 ⟨A4, c4, rfl, hS4, hb4⟩; replace i := i.below hb4; have d20 := i.t3.c0; have d21 := i.t3.c1; have f20 := i.t3.fr 0; have f21 := i.t3.fr 1))
      rw [show Kn.iv nx (Kn.dig (Kn.val xs + Kn.val ys)) = z by rw [HZ.out]; rw [iv_dig_add]] at hS4 ⊢
      have R := Lib.hid (two_set w4 (.bool (decide (z < 0))) (.slice A4 (Kn.dig z.natAbs).length c4) d20 d21)
      clear d20 d21 f20 f21
      go_wp2_with fail
      obtain ⟨r0, r1⟩ := R.out
      refine bodyPost_ret (v := .agg #[.bool (decide (z < 0)), .slice A4 (Kn.dig z.natAbs).length c4]) (by simp [results, Tryz.results74, go_sem, r0, r1]) rfl ?_
      exact i.fin hS4
  · obtain rfl : ny = !nx := by cases nx <;> cases ny <;> simp_all
    have hsb : (nx == !nx) = false := by cases nx <;> rfl
    clear hs
    by_cases hlt : Kn.val xs < Kn.val ys
    · have HLT := Lib.hid hlt
      clear hlt
      go_enter Tryz.func74, Tryz.ntmps74
      go_wp2_with fail
      have i := B3.new_ w nx A xs.length ca (!nx) B ys.length cb 24
      revert i
      generalize ((w.alloc (.cells #[.bool nx, .slice A xs.length ca] 24)).alloc (.cells #[.bool (!nx), .slice B ys.length cb] 24)).alloc (.cells #[.bool false, .slice none 0 0] 24) = wx
      intro i
      replace i := i.drew
      go_region_held3 (fun w' => w'.cell? ⟨w.heap.size, 1, none⟩ = some (.slice A xs.length ca) ∧ w'.cell? ⟨w.heap.size + 1, 1, none⟩ = some (.slice B ys.length cb))
        (exact ⟨i.t1.c1, i.t2.c1⟩)
        (first
          | (go_at_call 66; (with_reducible refine (rtrim_any A ca xs _ ((hx.below i.bel).more i.bel.size) (by omega)).mono ?_); rintro e wA ⟨A2, c2, rfl, hSx, hbx⟩; replace i := i.below hbx; (try (replace hSy := hSy.at_ hbx (Nat.le_refl _))))
          | (go_at_call 66; (with_reducible refine (rtrim_any B cb ys _ ((hy.below i.bel).more i.bel.size) (by omega)).mono ?_); rintro e wB ⟨B2, d2, rfl, hSy, hby⟩; replace i := i.below hby; (try (replace hSx := hSx.at_ hby (Nat.le_refl _)))))
      all_goals
        have c10 := i.t1.c0
        have c20 := i.t2.c0
        go_wp2_with fail
        refine (rcompare_lt A2 c2 _ B2 d2 _ _ _ hSx hSy (by omega) (by omega) HLT.out).mono ?_
        rintro e wq ⟨rfl, q, rfl⟩
        clear c10 c20
        replace i := i.drewN q
        replace hSx : Sl _ _ A2 c2 (Kn.dig (Kn.val xs)) := hSx.drewN q
        replace hSy : Sl _ _ B2 d2 (Kn.dig (Kn.val ys)) := hSy.drewN q
        go_wp2_with fail
        replace i := i.drew
        replace hSx : Sl _ _ A2 c2 (Kn.dig (Kn.val xs)) := hSx.drew
        replace hSy : Sl _ _ B2 d2 (Kn.dig (Kn.val ys)) := hSy.drew
        go_region_held3 (fun w' => w'.cell? ⟨w.heap.size + 1, 0, none⟩ = some (.bool (!nx)))
          (first | exact i.t2.c0 | exact ((i.t2.far (by simp; omega) _).far (by simp; omega) _).c0 | exact ((i.t2.far (by simp) _).far (by simp) _).c0)
          (first
            | (go_at_call 111; refine (rsubWords_any B2 d2 _ A2 c2 _ _ hSy hSx (by omega) (dig_len_ge (Nat.le_of_lt HLT.out)) (Lib.hid (by rw [hvx.out, hvy.out]; exact Nat.le_of_lt HLT.out))).mono ?_; rintro e w3 ⟨A3, c3, rfl, hS, hb3⟩; replace i := i.below hb3; rw [hvx.out, hvy.out] at hS ⊢)
            | (go_at_call 76; refine (made_any (!nx) A3 c3 _ _ hS (by have := Kn.dig_len_le (n := Kn.val ys - Kn.val xs) (k := ys.length) (by have := Kn.val_lt hy.wd; omega); omega)).mono ?_; rintro e w4 ⟨A4, c4, rfl, hS4, hb4⟩; replace i := i.below hb4; have d20 := i.t3.c0; have d21 := i.t3.c1; have f20 := i.t3.fr 0; have f21 := i.t3.fr 1))
        rw [show Kn.iv (!nx) (Kn.dig (Kn.val ys - Kn.val xs)) = z by rw [HZ.out]; rw [iv_dig_sub _ _ _ (Nat.le_of_lt HLT.out), Bool.not_not]; omega] at hS4 ⊢
        have R := Lib.hid (two_set w4 (.bool (decide (z < 0))) (.slice A4 (Kn.dig z.natAbs).length c4) d20 d21)
        clear d20 d21 f20 f21
        go_wp2_with fail
        obtain ⟨r0, r1⟩ := R.out
        refine bodyPost_ret (v := .agg #[.bool (decide (z < 0)), .slice A4 (Kn.dig z.natAbs).length c4]) (by simp [results, Tryz.results74, go_sem, r0, r1]) rfl ?_
        exact i.fin hS4
    · have hge : Kn.val ys ≤ Kn.val xs := by omega
      have HGE := Lib.hid hge
      clear hge hlt
      go_enter Tryz.func74, Tryz.ntmps74
      go_wp2_with fail
      have i := B3.new_ w nx A xs.length ca (!nx) B ys.length cb 24
      revert i
      generalize ((w.alloc (.cells #[.bool nx, .slice A xs.length ca] 24)).alloc (.cells #[.bool (!nx), .slice B ys.length cb] 24)).alloc (.cells #[.bool false, .slice none 0 0] 24) = wx
      intro i
      replace i := i.drew
      go_region_held3 (fun w' => w'.cell? ⟨w.heap.size, 1, none⟩ = some (.slice A xs.length ca) ∧ w'.cell? ⟨w.heap.size + 1, 1, none⟩ = some (.slice B ys.length cb))
        (exact ⟨i.t1.c1, i.t2.c1⟩)
        (first
          | (go_at_call 66; (with_reducible refine (rtrim_any A ca xs _ ((hx.below i.bel).more i.bel.size) (by omega)).mono ?_); rintro e wA ⟨A2, c2, rfl, hSx, hbx⟩; replace i := i.below hbx; (try (replace hSy := hSy.at_ hbx (Nat.le_refl _))))
          | (go_at_call 66; (with_reducible refine (rtrim_any B cb ys _ ((hy.below i.bel).more i.bel.size) (by omega)).mono ?_); rintro e wB ⟨B2, d2, rfl, hSy, hby⟩; replace i := i.below hby; (try (replace hSx := hSx.at_ hby (Nat.le_refl _)))))
      all_goals
        have c10 := i.t1.c0
        have c20 := i.t2.c0
        go_wp2_with fail
        refine (rcompare_ge A2 c2 _ B2 d2 _ _ _ hSx hSy (by omega) (by omega) HGE.out).mono ?_
        rintro e wq ⟨cc, rfl, q, rfl⟩
        have hcc : (0 : Int) ≤ (cc : Int) := by omega
        clear c10 c20
        replace i := i.drewN q
        replace hSx : Sl _ _ A2 c2 (Kn.dig (Kn.val xs)) := hSx.drewN q
        replace hSy : Sl _ _ B2 d2 (Kn.dig (Kn.val ys)) := hSy.drewN q
        go_wp2_with fail
        replace i := i.drew
        replace hSx : Sl _ _ A2 c2 (Kn.dig (Kn.val xs)) := hSx.drew
        replace hSy : Sl _ _ B2 d2 (Kn.dig (Kn.val ys)) := hSy.drew
        go_region_held3 (fun w' => w'.cell? ⟨w.heap.size, 0, none⟩ = some (.bool nx))
          (first | exact i.t1.c0 | exact ((i.t1.far (by simp; omega) _).far (by simp; omega) _).c0 | exact ((i.t1.far (by simp) _).far (by simp) _).c0)
          (first
            | (go_at_call 111; refine (rsubWords_any A2 c2 _ B2 d2 _ _ hSx hSy (by omega) (dig_len_ge HGE.out) (Lib.hid (by rw [hvx.out, hvy.out]; exact HGE.out))).mono ?_; rintro e w3 ⟨A3, c3, rfl, hS, hb3⟩; replace i := i.below hb3; rw [hvx.out, hvy.out] at hS ⊢)
            | (go_at_call 76; refine (made_any nx A3 c3 _ _ hS (by have := Kn.dig_len_le (n := Kn.val xs - Kn.val ys) (k := xs.length) (by have := Kn.val_lt hx.wd; omega); omega)).mono ?_; rintro e w4 ⟨A4, c4, rfl, hS4, hb4⟩; replace i := i.below hb4; have d20 := i.t3.c0; have d21 := i.t3.c1; have f20 := i.t3.fr 0; have f21 := i.t3.fr 1))
        rw [show Kn.iv nx (Kn.dig (Kn.val xs - Kn.val ys)) = z by rw [HZ.out]; rw [iv_dig_sub _ _ _ HGE.out]] at hS4 ⊢
        have R := Lib.hid (two_set w4 (.bool (decide (z < 0))) (.slice A4 (Kn.dig z.natAbs).length c4) d20 d21)
        clear d20 d21 f20 f21
        go_wp2_with fail
        obtain ⟨r0, r1⟩ := R.out
        refine bodyPost_ret (v := .agg #[.bool (decide (z < 0)), .slice A4 (Kn.dig z.natAbs).length c4]) (by simp [results, Tryz.results74, go_sem, r0, r1]) rfl ?_
        exact i.fin hS4
end Go.Proofs.YtkpomjdablopaaaGreatDoor
/- Walks: the reference's Sub, Compare. -/
namespace Go.Proofs.YtkpomjdablopaaaGreatDoor
open Go.RowKit
set_option linter.unusedVariables false

theorem dig_abs_len {z : Int} {k : Nat} (h : z.natAbs < Kn.pw k) : (Kn.dig z.natAbs).length ≤ k := Kn.dig_len_le h
theorem iv_abs_lt (s : Bool) {ws : List Nat} (h : Kn.Wd ws) : (Kn.iv s ws).natAbs < Kn.pw ws.length := by rw [Kn.iv_natAbs]; exact Kn.val_lt h
theorem cmpI_sub (a b : Int) : cmpI a b = (a - b).sign := by
  rcases sgn (a - b) with ⟨h1, h2⟩ | ⟨h1, h2⟩ | ⟨h1, h2⟩ <;> rw [h2] <;> unfold cmpI <;> (repeat' split) <;> omega

set_option maxRecDepth 100000 in
set_option maxHeartbeats 2000000 in
theorem rsub_any (nx : Bool) (A : Option Addr) (ca : Nat) (xs : List Nat) (ny : Bool) (B : Option Addr) (cb : Nat) (ys : List Nat) (w : World) (hx : Sl w w.heap.size A ca xs) (hy : Sl w w.heap.size B cb ys) (hlx : xs.length ≤ 99999999) (hly : ys.length ≤ 99999999) :
    Calls Tryz.prog 112 #[intV nx A xs.length ca, intV ny B ys.length cb] w (IntRes (Kn.iv nx xs - Kn.iv ny ys) w) := by
  obtain ⟨z, hz⟩ : ∃ z : Int, z = Kn.iv nx xs - Kn.iv ny ys := ⟨_, rfl⟩
  rw [← hz]
  have HZ := Lib.hid hz
  clear hz
  obtain ⟨zn, hzn⟩ : ∃ z : Int, Hid (z = Kn.iv (!ny) ys) := ⟨_, Lib.hid rfl⟩
  have hln : (Kn.dig zn.natAbs).length ≤ 99999999 := Nat.le_trans (dig_abs_len (by rw [hzn.out]; exact iv_abs_lt _ hy.wd)) hly
  have HN : Hid (∀ w : World, Sl w w.heap.size B cb ys → Calls Tryz.prog 37 #[.agg #[.bool ny, .slice B ys.length cb]] w (IntRes zn w)) := Lib.hid (fun w h => by rw [hzn.out]; exact rneg_any ny B cb ys w h (by omega))
  have HD : Hid (∀ (w : World) (A3 : Option Addr) (c3 : Nat), Sl w w.heap.size A ca xs → Sl w w.heap.size A3 c3 (Kn.dig zn.natAbs) → Calls Tryz.prog 74 #[.agg #[.bool nx, .slice A xs.length ca], .agg #[.bool (decide (zn < 0)), .slice A3 (Kn.dig zn.natAbs).length c3]] w (IntRes z w)) := Lib.hid (fun w A3 c3 h h3 => by
    have := radd_any nx A ca xs (decide (zn < 0)) A3 c3 (Kn.dig zn.natAbs) w h h3 hlx hln
    rwa [Kn.iv_dig, show Kn.iv nx xs + zn = z by rw [HZ.out, hzn.out, iv_not]; omega] at this)
  unfold intV
  go_enter Tryz.func112, Tryz.ntmps112
  go_wp2_with fail
  have i := B3.new_ w nx A xs.length ca ny B ys.length cb 24
  revert i
  generalize ((w.alloc (.cells #[.bool nx, .slice A xs.length ca] 24)).alloc (.cells #[.bool ny, .slice B ys.length cb] 24)).alloc (.cells #[.bool false, .slice none 0 0] 24) = wx
  intro i
  replace i := i.drew
  go_region_held3 (fun w' => w'.cell? ⟨w.heap.size, 0, none⟩ = some (.bool nx) ∧ w'.cell? ⟨w.heap.size, 1, none⟩ = some (.slice A xs.length ca) ∧ w'.cell? ⟨w.heap.size + 1, 0, none⟩ = some (.bool ny) ∧ w'.cell? ⟨w.heap.size + 1, 1, none⟩ = some (.slice B ys.length cb))
    (first | exact ⟨i.t1.c0, i.t1.c1, i.t2.c0, i.t2.c1⟩ | exact ⟨((i.t1.far (by simp; omega) _).far (by simp; omega) _).c0, ((i.t1.far (by simp; omega) _).far (by simp; omega) _).c1, ((i.t2.far (by simp) _).far (by simp) _).c0, ((i.t2.far (by simp) _).far (by simp) _).c1⟩)
    (first
      | (go_at_call 37; refine (HN.out _ ((hy.below i.bel).more i.bel.size)).mono ?_; rintro e w3 ⟨A3, c3, rfl, hS, hb3⟩; replace i := i.below hb3)
      | (go_at_call 74; refine (HD.out _ A3 c3 ((hx.below i.bel).more i.bel.size) hS).mono ?_; rintro e w4 ⟨A4, c4, rfl, hS4, hb4⟩; replace i := i.below hb4; have d20 := i.t3.c0; have d21 := i.t3.c1; have f20 := i.t3.fr 0; have f21 := i.t3.fr 1))
  all_goals
    have R := Lib.hid (two_set w4 (.bool (decide (z < 0))) (.slice A4 (Kn.dig z.natAbs).length c4) d20 d21)
    clear d20 d21 f20 f21
    go_wp2_with fail
    obtain ⟨r0, r1⟩ := R.out
    refine bodyPost_ret (v := .agg #[.bool (decide (z < 0)), .slice A4 (Kn.dig z.natAbs).length c4]) (by simp [results, Tryz.results112, go_sem, r0, r1]) rfl ?_
    exact i.fin hS4

end Go.Proofs.YtkpomjdablopaaaGreatDoor
/-
  DERIVED: THE SHELF's CONTRACTS AT THIS DUMP, IN PLAIN WORDS (tools/lay-plain.mjs out of 'TryzShelf.lean', which tools/lay-shelf.mjs wrote): THE SAME DECLARATIONS UNDER THE SAME NAMES: 'import', 'namespace', 'open', 'def', 'theorem' AND NOTHING ELSE: no command of the shelf's: FOR A HAND-IN. Each laying: the table of numbers ('.._ren') and one theorem, a field a fact of the dump's own or the kernel's comparison; each contract: ONE APPLICATION.
-/
namespace Go.Proofs
open Go.Shelf
def Tryz.lays160_ren : Go.Shelf.Ren := ⟨fun | 160 => 60 | 232 => 100 | 231 => 99 | 227 => 101 | 234 => 103 | 233 => 102 | 236 => 105 | 235 => 104 | 228 => 136 | 271 => 139 | 151 => 138 | 197 => 137 | 120 => 161 | 152 => 160 | 260 => 159 | 137 => 175 | 119 => 176 | 224 => 134 | 225 => 133 | 217 => 132 | 266 => 157 | n => n, fun | 9 => 9 | 4 => 4 | 3 => 3 | 5 => 5 | 117 => 114 | 116 => 113 | 0 => 0 | 124 => 117 | 21 => 21 | 105 => 137 | 46 => 103 | 119 => 171 | 139 => 174 | 138 => 173 | n => n, fun | 3 => 6 | 4 => 7 | n => n⟩
theorem Tryz.lays160 : Go.Proofs.Lays.n160 Tryz.prog Tryz.lays160_ren := {
  mixed := by kernel_rfl
  f119 := Tryz.func176.trans (congrArg some (by kernel_rfl))
  f120 := Tryz.func161.trans (congrArg some (by kernel_rfl))
  f137 := Tryz.func175.trans (congrArg some (by kernel_rfl))
  f151 := Tryz.func138.trans (congrArg some (by kernel_rfl))
  f152 := Tryz.func160.trans (congrArg some (by kernel_rfl))
  f160 := Tryz.func60.trans (congrArg some (by kernel_rfl))
  f197 := Tryz.func137.trans (congrArg some (by kernel_rfl))
  f217 := Tryz.func132.trans (congrArg some (by kernel_rfl))
  f224 := Tryz.func134.trans (congrArg some (by kernel_rfl))
  f225 := Tryz.func133.trans (congrArg some (by kernel_rfl))
  f227 := Tryz.func101.trans (congrArg some (by kernel_rfl))
  f228 := Tryz.func136.trans (congrArg some (by kernel_rfl))
  f231 := Tryz.func99.trans (congrArg some (by kernel_rfl))
  f232 := Tryz.func100.trans (congrArg some (by kernel_rfl))
  f233 := Tryz.func102.trans (congrArg some (by kernel_rfl))
  f234 := Tryz.func103.trans (congrArg some (by kernel_rfl))
  f235 := Tryz.func104.trans (congrArg some (by kernel_rfl))
  f236 := Tryz.func105.trans (congrArg some (by kernel_rfl))
  f260 := Tryz.func159.trans (congrArg some (by kernel_rfl))
  f266 := Tryz.func157.trans (congrArg some (by kernel_rfl))
  f271 := Tryz.func139.trans (congrArg some (by kernel_rfl))
  t0 := Tryz.underlying0
  a0 := Tryz.isAgg0
  z0 := Tryz.sizeOf0
  v0 := Tryz.zeroValue0
  t3 := Tryz.underlying3
  a3 := Tryz.isAgg3
  z3 := Tryz.sizeOf3
  v3 := Tryz.zeroValue3
  t4 := Tryz.underlying4
  a4 := Tryz.isAgg4
  z4 := Tryz.sizeOf4
  v4 := Tryz.zeroValue4
  t5 := Tryz.underlying5
  a5 := Tryz.isAgg5
  z5 := Tryz.sizeOf5
  v5 := Tryz.zeroValue5
  t9 := Tryz.underlying9
  a9 := Tryz.isAgg9
  z9 := Tryz.sizeOf9
  v9 := Tryz.zeroValue9
  t21 := Tryz.underlying21
  a21 := Tryz.isAgg21
  z21 := Tryz.sizeOf21
  v21 := Tryz.zeroValue21
  t46 := Tryz.underlying103
  a46 := Tryz.isAgg103
  z46 := Tryz.sizeOf103
  v46 := Tryz.zeroValue103
  t105 := Tryz.underlying137
  a105 := Tryz.isAgg137
  z105 := Tryz.sizeOf137
  v105 := Tryz.zeroValue137
  t116 := Tryz.underlying113
  a116 := Tryz.isAgg113
  z116 := Tryz.sizeOf113
  t117 := Tryz.underlying114
  a117 := Tryz.isAgg114
  z117 := Tryz.sizeOf114
  v117 := Tryz.zeroValue114
  t119 := Tryz.underlying171
  a119 := Tryz.isAgg171
  z119 := Tryz.sizeOf171
  t124 := Tryz.underlying117
  a124 := Tryz.isAgg117
  z124 := Tryz.sizeOf117
  v124 := Tryz.zeroValue117
  t138 := Tryz.underlying173
  a138 := Tryz.isAgg173
  z138 := Tryz.sizeOf173
  v138 := Tryz.zeroValue173
  t139 := Tryz.underlying174
  a139 := Tryz.isAgg174
  z139 := Tryz.sizeOf174
  v139 := Tryz.zeroValue174
  g3 := by kernel_rfl
  g4 := by kernel_rfl }
def Tryz.lays128_ren : Go.Shelf.Ren := ⟨fun | 128 => 77 | n => n, fun | 51 => 88 | 3 => 3 | 4 => 4 | 46 => 103 | 5 => 5 | 9 => 9 | n => n, fun | n => n⟩
theorem Tryz.lays128 : Go.Proofs.Lays.n128 Tryz.prog Tryz.lays128_ren := {
  mixed := by kernel_rfl
  f128 := Tryz.func77.trans (congrArg some (by kernel_rfl))
  t3 := Tryz.underlying3
  a3 := Tryz.isAgg3
  z3 := Tryz.sizeOf3
  v3 := Tryz.zeroValue3
  t4 := Tryz.underlying4
  a4 := Tryz.isAgg4
  z4 := Tryz.sizeOf4
  v4 := Tryz.zeroValue4
  t5 := Tryz.underlying5
  a5 := Tryz.isAgg5
  z5 := Tryz.sizeOf5
  v5 := Tryz.zeroValue5
  t9 := Tryz.underlying9
  a9 := Tryz.isAgg9
  z9 := Tryz.sizeOf9
  v9 := Tryz.zeroValue9
  t46 := Tryz.underlying103
  a46 := Tryz.isAgg103
  z46 := Tryz.sizeOf103
  v46 := Tryz.zeroValue103
  t51 := Tryz.underlying88
  a51 := Tryz.isAgg88
  z51 := Tryz.sizeOf88
  v51 := Tryz.zeroValue88 }
/-- bits.Len32: "Len32 returns the minimum number of bits required to represent x; the result is 0 for x == 0.": IT RETURNS 'Lib.bitLen x'; the world is as it was. ('h0', 'h1': x is a uint32.) (LAID: no walk: one application.) -/
theorem Tryz.bits_Len32 (x : Int) (w : World) (h0 : 0 ≤ x) (h1 : x ≤ 4294967295) :
    Calls Tryz.prog 77 #[.int .u32 x] w fun e w' => e = .returned (.int .i64 (Lib.bitLen x.toNat)) ∧ w' = w := Any.bits_Len32 Tryz.lays128 x w h0 h1
def Tryz.lays133_ren : Go.Shelf.Ren := ⟨fun | 133 => 169 | 128 => 77 | n => n, fun | 51 => 88 | 3 => 3 | 4 => 4 | 46 => 103 | 5 => 5 | 9 => 9 | n => n, fun | n => n⟩
theorem Tryz.lays133 : Go.Proofs.Lays.n133 Tryz.prog Tryz.lays133_ren := {
  mixed := by kernel_rfl
  f128 := Tryz.func77.trans (congrArg some (by kernel_rfl))
  f133 := Tryz.func169.trans (congrArg some (by kernel_rfl))
  t3 := Tryz.underlying3
  a3 := Tryz.isAgg3
  z3 := Tryz.sizeOf3
  v3 := Tryz.zeroValue3
  t4 := Tryz.underlying4
  a4 := Tryz.isAgg4
  z4 := Tryz.sizeOf4
  v4 := Tryz.zeroValue4
  t5 := Tryz.underlying5
  a5 := Tryz.isAgg5
  z5 := Tryz.sizeOf5
  v5 := Tryz.zeroValue5
  t9 := Tryz.underlying9
  a9 := Tryz.isAgg9
  z9 := Tryz.sizeOf9
  v9 := Tryz.zeroValue9
  t46 := Tryz.underlying103
  a46 := Tryz.isAgg103
  z46 := Tryz.sizeOf103
  v46 := Tryz.zeroValue103
  t51 := Tryz.underlying88
  a51 := Tryz.isAgg88
  z51 := Tryz.sizeOf88
  v51 := Tryz.zeroValue88 }
/-- bits.LeadingZeros32: "LeadingZeros32 returns the number of leading zero bits in x; the result is 32 for x == 0.": IT RETURNS '32 - Lib.bitLen x'; the world is as it was. ITS CALLEE bits.Len32 IS MET BY ITS OWN CONTRACT OFF THE SHELF (lay that first): entered in place it sends the kernel out of memory. (LAID: no walk: one application.) -/
theorem Tryz.bits_LeadingZeros32 (x : Int) (w : World) (h0 : 0 ≤ x) (h1 : x ≤ 4294967295) :
    Calls Tryz.prog 169 #[.int .u32 x] w fun e w' => e = .returned (.int .i64 (32 - (Lib.bitLen x.toNat : Int))) ∧ w' = w := Any.bits_LeadingZeros32 Tryz.lays133 x w h0 h1
def Tryz.lays134_ren : Go.Shelf.Ren := ⟨fun | 134 => 124 | 129 => 151 | n => n, fun | 53 => 82 | 3 => 3 | 4 => 4 | 46 => 103 | 5 => 5 | 9 => 9 | n => n, fun | n => n⟩
theorem Tryz.lays134 : Go.Proofs.Lays.n134 Tryz.prog Tryz.lays134_ren := {
  mixed := by kernel_rfl
  f129 := Tryz.func151.trans (congrArg some (by kernel_rfl))
  f134 := Tryz.func124.trans (congrArg some (by kernel_rfl))
  t3 := Tryz.underlying3
  a3 := Tryz.isAgg3
  z3 := Tryz.sizeOf3
  v3 := Tryz.zeroValue3
  t4 := Tryz.underlying4
  a4 := Tryz.isAgg4
  z4 := Tryz.sizeOf4
  v4 := Tryz.zeroValue4
  t5 := Tryz.underlying5
  a5 := Tryz.isAgg5
  z5 := Tryz.sizeOf5
  v5 := Tryz.zeroValue5
  t9 := Tryz.underlying9
  a9 := Tryz.isAgg9
  z9 := Tryz.sizeOf9
  v9 := Tryz.zeroValue9
  t46 := Tryz.underlying103
  a46 := Tryz.isAgg103
  z46 := Tryz.sizeOf103
  v46 := Tryz.zeroValue103
  t53 := Tryz.underlying82
  a53 := Tryz.isAgg82
  z53 := Tryz.sizeOf82
  v53 := Tryz.zeroValue82 }
/-- bits.LeadingZeros64: "LeadingZeros64 returns the number of leading zero bits in x; the result is 64 for x == 0.": IT RETURNS '64 - Lib.bitLen x'; the world is as it was. ITS CALLEE bits.Len64 IS MET BY ITS OWN CONTRACT OFF THE SHELF (lay that first): entered in place it sends the kernel out of memory. (LAID: no walk: one application.) -/
theorem Tryz.bits_LeadingZeros64 (x : Int) (w : World) (h0 : 0 ≤ x) (h1 : x ≤ 18446744073709551615) :
    Calls Tryz.prog 124 #[.int .u64 x] w fun e w' => e = .returned (.int .i64 (64 - (Lib.bitLen x.toNat : Int))) ∧ w' = w := Any.bits_LeadingZeros64 Tryz.lays134 x w h0 h1
def Tryz.lays103_ren : Go.Shelf.Ren := ⟨fun | 103 => 25 | 210 => 59 | 206 => 98 | n => n, fun | 9 => 9 | 4 => 4 | 24 => 48 | 3 => 3 | n => n, fun | n => n⟩
theorem Tryz.lays103 : Go.Proofs.Lays.n103 Tryz.prog Tryz.lays103_ren := {
  mixed := by kernel_rfl
  f103 := Tryz.func25.trans (congrArg some (by kernel_rfl))
  f206 := Tryz.func98.trans (congrArg some (by kernel_rfl))
  f210 := Tryz.func59.trans (congrArg some (by kernel_rfl))
  t3 := Tryz.underlying3
  a3 := Tryz.isAgg3
  z3 := Tryz.sizeOf3
  v3 := Tryz.zeroValue3
  t4 := Tryz.underlying4
  a4 := Tryz.isAgg4
  z4 := Tryz.sizeOf4
  v4 := Tryz.zeroValue4
  t9 := Tryz.underlying9
  a9 := Tryz.isAgg9
  z9 := Tryz.sizeOf9
  v9 := Tryz.zeroValue9
  t24 := Tryz.underlying48
  a24 := Tryz.isAgg48
  z24 := Tryz.sizeOf48
  v24 := Tryz.zeroValue48 }
open Go.RowKit in
/-- strings.CutPrefix: "CutPrefix returns s without the provided leading prefix string and reports whether it found the prefix. If s doesn't start with prefix, CutPrefix returns s, false. If prefix is the empty string, CutPrefix returns s, true.": IT RETURNS '(Lib.trimPrefix s p, Lib.hasPrefix s p)'; the world is as it was. (LAID: no walk: one application.) -/
theorem Tryz.strings_CutPrefix (s p : ByteArray) (w : World) :
    Calls Tryz.prog 25 #[.string s, .string p] w fun e w' => e = .returned (.tuple #[.string ⟨(Lib.trimPrefix s.data.toList p.data.toList).toArray⟩, .bool (Lib.hasPrefix s.data.toList p.data.toList)]) ∧ w' = w := Any.strings_CutPrefix Tryz.lays103 s p w
def Tryz.lays283_ren : Go.Shelf.Ren := ⟨fun | 283 => 125 | n => n, fun | 3 => 3 | 9 => 9 | 4 => 4 | n => n, fun | n => n⟩
theorem Tryz.lays283 : Go.Proofs.Lays.n283 Tryz.prog Tryz.lays283_ren := {
  mixed := by kernel_rfl
  f283 := Tryz.func125.trans (congrArg some (by kernel_rfl))
  t3 := Tryz.underlying3
  a3 := Tryz.isAgg3
  z3 := Tryz.sizeOf3
  v3 := Tryz.zeroValue3
  t4 := Tryz.underlying4
  a4 := Tryz.isAgg4
  z4 := Tryz.sizeOf4
  v4 := Tryz.zeroValue4
  t9 := Tryz.underlying9
  a9 := Tryz.isAgg9
  z9 := Tryz.sizeOf9
  v9 := Tryz.zeroValue9 }
open Go.Lib in
/-- internal/strconv.small: "small returns the string for an i with 0 <= i < nSmalls.": i's decimal numeral. The world is as it was. (LAID: no walk: one application.) -/
theorem Tryz.internal_strconv_small (i : Nat) (h : i < 100) (w : World) :
    Calls Tryz.prog 125 #[.int .i64 i] w fun e w' => e = .returned (.string ⟨(Lib.decDigits i).toArray⟩) ∧ w' = w := Any.internal_strconv_small Tryz.lays283 i h w
def Tryz.laysM284_ren : Go.Shelf.Ren := ⟨fun | 284 => 126 | 129 => 151 | 317 => 152 | 318 => 153 | n => n, fun | 53 => 82 | 3 => 3 | 212 => 151 | 0 => 0 | 4 => 4 | 46 => 103 | 5 => 5 | 9 => 9 | n => n, fun | 17 => 3 | n => n⟩
theorem Tryz.laysM284 : Go.Proofs.LaysM.n284 Tryz.prog Tryz.laysM284_ren := {
  mixed := by kernel_rfl
  f129 := Tryz.func151.trans (congrArg some (by kernel_rfl))
  f284 := Tryz.func126.trans (congrArg some (by kernel_rfl))
  f317 := Tryz.func152.trans (congrArg some (by kernel_rfl))
  f318 := Tryz.func153.trans (congrArg some (by kernel_rfl))
  t0 := Tryz.underlying0
  a0 := Tryz.isAgg0
  z0 := Tryz.sizeOf0
  v0 := Tryz.zeroValue0
  t3 := Tryz.underlying3
  a3 := Tryz.isAgg3
  z3 := Tryz.sizeOf3
  v3 := Tryz.zeroValue3
  t4 := Tryz.underlying4
  a4 := Tryz.isAgg4
  z4 := Tryz.sizeOf4
  v4 := Tryz.zeroValue4
  t5 := Tryz.underlying5
  a5 := Tryz.isAgg5
  z5 := Tryz.sizeOf5
  v5 := Tryz.zeroValue5
  t9 := Tryz.underlying9
  a9 := Tryz.isAgg9
  z9 := Tryz.sizeOf9
  v9 := Tryz.zeroValue9
  t46 := Tryz.underlying103
  a46 := Tryz.isAgg103
  z46 := Tryz.sizeOf103
  v46 := Tryz.zeroValue103
  t53 := Tryz.underlying82
  a53 := Tryz.isAgg82
  z53 := Tryz.sizeOf82
  v53 := Tryz.zeroValue82
  t212 := Tryz.underlying151
  a212 := Tryz.isAgg151
  z212 := Tryz.sizeOf151
  v212 := Tryz.zeroValue151
  g17 := by kernel_rfl
  i0 := by kernel_rfl
  i3 := by kernel_rfl
  i4 := by kernel_rfl
  i5 := by kernel_rfl
  i9 := by kernel_rfl
  i46 := by kernel_rfl
  i53 := by kernel_rfl
  i212 := by kernel_rfl
  m17 := by kernel_rfl }
open Go.Lib in
/-- internal/strconv.numDigits, at a d that is not 0: THE NUMBER OF d's DECIMAL DIGITS. The world is as it was. (LAID: no walk: one application.) -/
theorem Tryz.internal_strconv_numDigits (u : Nat) (h1 : 1 ≤ u) (h2 : u < 18446744073709551616) (w : World) (htab : Lib.TabIs Tryz.prog w "internal/strconv.uint64pow10" .u64 Lib.pow10Tab) :
    Calls Tryz.prog 126 #[.int .u64 u] w fun e w' => e = .returned (.int .i64 (Lib.nDigits u)) ∧ w' = w := Any.internal_strconv_numDigits Tryz.laysM284 u h1 h2 w htab
def Tryz.lays285_ren : Go.Shelf.Ren := ⟨fun | 285 => 127 | n => n, fun | 37 => 71 | 53 => 82 | 3 => 3 | 4 => 4 | 51 => 88 | 9 => 9 | 5 => 5 | 0 => 0 | n => n, fun | n => n⟩
theorem Tryz.lays285 : Go.Proofs.Lays.n285 Tryz.prog Tryz.lays285_ren := {
  mixed := by kernel_rfl
  f285 := Tryz.func127.trans (congrArg some (by kernel_rfl))
  t0 := Tryz.underlying0
  a0 := Tryz.isAgg0
  z0 := Tryz.sizeOf0
  v0 := Tryz.zeroValue0
  t3 := Tryz.underlying3
  a3 := Tryz.isAgg3
  z3 := Tryz.sizeOf3
  v3 := Tryz.zeroValue3
  t4 := Tryz.underlying4
  a4 := Tryz.isAgg4
  z4 := Tryz.sizeOf4
  v4 := Tryz.zeroValue4
  t5 := Tryz.underlying5
  a5 := Tryz.isAgg5
  z5 := Tryz.sizeOf5
  v5 := Tryz.zeroValue5
  t9 := Tryz.underlying9
  a9 := Tryz.isAgg9
  z9 := Tryz.sizeOf9
  v9 := Tryz.zeroValue9
  t37 := Tryz.underlying71
  a37 := Tryz.isAgg71
  z37 := Tryz.sizeOf71
  v37 := Tryz.zeroValue71
  t51 := Tryz.underlying88
  a51 := Tryz.isAgg88
  z51 := Tryz.sizeOf88
  v51 := Tryz.zeroValue88
  t53 := Tryz.underlying82
  a53 := Tryz.isAgg82
  z53 := Tryz.sizeOf82
  v53 := Tryz.zeroValue82 }
open Go.RowKit Go.Sort Go.Lib in
/-- internal/strconv.formatBase10: "formatBase10 formats the decimal representation of u into a. The caller is responsible for ensuring that a is big enough to hold u. If a is too big, leading zeros will be filled in as needed.": THE ROW HOLDS u's DIGITS ('FmtInv .. 0 ..': every place t holds 'dg u (len - 1 - t)'); all else is as it was but for the count of draws. (LAID: no walk: one application.) -/
theorem Tryz.internal_strconv_formatBase10 (blk off cap : Nat) (u : Nat) (d : Array UInt8) (w : World) (hH : Holds (fun (b : UInt8) => Value.int .u8 (b.toNat : Int)) w blk off d) (hu : u < 10 ^ d.size) (hu64 : u < 18446744073709551616) (hsz : d.size < 4611686018427387904) :
    Calls Tryz.prog 127 #[.slice (some ⟨blk, off, none⟩) d.size cap, .int .u64 u] w fun e w' =>
      e = .returned (.tuple #[]) ∧ ∃ (n v' : Nat) (dk : Array UInt8), w' = (putRow (fun (b : UInt8) => Value.int .u8 (b.toNat : Int)) w blk off dk).drewN n ∧ FmtInv d.size u 0 v' dk := Any.internal_strconv_formatBase10 Tryz.lays285 blk off cap u d w hH hu hu64 hsz
def Tryz.laysC172_ren : Go.Shelf.Ren := ⟨fun | 172 => 61 | 244 => 106 | 245 => 107 | 247 => 140 | 279 => 141 | 280 => 142 | 281 => 143 | 282 => 144 | 287 => 162 | 316 => 163 | 171 => 165 | 205 => 164 | 321 => 177 | 322 => 178 | 243 => 179 | 246 => 183 | 283 => 125 | 284 => 126 | 285 => 127 | 286 => 128 | 129 => 151 | 317 => 152 | 318 => 153 | 319 => 154 | 320 => 155 | 337 => 173 | 338 => 174 | n => n, fun | 9 => 9 | 3 => 3 | 75 => 75 | 76 => 79 | 4 => 4 | 5 => 5 | 167 => 140 | 37 => 71 | 0 => 0 | 85 => 141 | 2 => 2 | 168 => 143 | 53 => 82 | 175 => 157 | 46 => 103 | 210 => 161 | 127 => 109 | 145 => 179 | 143 => 177 | 21 => 21 | 171 => 127 | 173 => 129 | 212 => 151 | 51 => 88 | 20 => 20 | 213 => 152 | 232 => 183 | 233 => 184 | 80 => 84 | n => n, fun | 15 => 4 | 16 => 5 | 17 => 3 | 18 => 8 | 19 => 9 | n => n⟩
theorem Tryz.laysC172 : Go.Proofs.LaysC.n172 Tryz.prog Tryz.laysC172_ren := {
  mixed := by kernel_rfl
  f129 := Tryz.func151.trans (congrArg some (by kernel_rfl))
  f171 := Tryz.func165.trans (congrArg some (by kernel_rfl))
  f172 := Tryz.func61.trans (congrArg some (by kernel_rfl))
  f205 := Tryz.func164.trans (congrArg some (by kernel_rfl))
  f243 := Tryz.func179.trans (congrArg some (by kernel_rfl))
  f244 := Tryz.func106.trans (congrArg some (by kernel_rfl))
  f245 := Tryz.func107.trans (congrArg some (by kernel_rfl))
  f246 := Tryz.func183.trans (congrArg some (by kernel_rfl))
  f247 := Tryz.func140.trans (congrArg some (by kernel_rfl))
  f279 := Tryz.func141.trans (congrArg some (by kernel_rfl))
  f280 := Tryz.func142.trans (congrArg some (by kernel_rfl))
  f281 := Tryz.func143.trans (congrArg some (by kernel_rfl))
  f282 := Tryz.func144.trans (congrArg some (by kernel_rfl))
  f283 := Tryz.func125.trans (congrArg some (by kernel_rfl))
  f284 := Tryz.func126.trans (congrArg some (by kernel_rfl))
  f285 := Tryz.func127.trans (congrArg some (by kernel_rfl))
  f286 := Tryz.func128.trans (congrArg some (by kernel_rfl))
  f287 := Tryz.func162.trans (congrArg some (by kernel_rfl))
  f316 := Tryz.func163.trans (congrArg some (by kernel_rfl))
  f317 := Tryz.func152.trans (congrArg some (by kernel_rfl))
  f318 := Tryz.func153.trans (congrArg some (by kernel_rfl))
  f319 := Tryz.func154.trans (congrArg some (by kernel_rfl))
  f320 := Tryz.func155.trans (congrArg some (by kernel_rfl))
  f321 := Tryz.func177.trans (congrArg some (by kernel_rfl))
  f322 := Tryz.func178.trans (congrArg some (by kernel_rfl))
  f337 := Tryz.func173.trans (congrArg some (by kernel_rfl))
  f338 := Tryz.func174.trans (congrArg some (by kernel_rfl))
  t0 := Tryz.underlying0
  a0 := Tryz.isAgg0
  z0 := Tryz.sizeOf0
  v0 := Tryz.zeroValue0
  t2 := Tryz.underlying2
  a2 := Tryz.isAgg2
  z2 := Tryz.sizeOf2
  v2 := Tryz.zeroValue2
  t3 := Tryz.underlying3
  a3 := Tryz.isAgg3
  z3 := Tryz.sizeOf3
  v3 := Tryz.zeroValue3
  t4 := Tryz.underlying4
  a4 := Tryz.isAgg4
  z4 := Tryz.sizeOf4
  v4 := Tryz.zeroValue4
  t5 := Tryz.underlying5
  a5 := Tryz.isAgg5
  z5 := Tryz.sizeOf5
  v5 := Tryz.zeroValue5
  t9 := Tryz.underlying9
  a9 := Tryz.isAgg9
  z9 := Tryz.sizeOf9
  v9 := Tryz.zeroValue9
  t20 := Tryz.underlying20
  a20 := Tryz.isAgg20
  z20 := Tryz.sizeOf20
  v20 := Tryz.zeroValue20
  t21 := Tryz.underlying21
  a21 := Tryz.isAgg21
  z21 := Tryz.sizeOf21
  v21 := Tryz.zeroValue21
  t37 := Tryz.underlying71
  a37 := Tryz.isAgg71
  z37 := Tryz.sizeOf71
  v37 := Tryz.zeroValue71
  t46 := Tryz.underlying103
  a46 := Tryz.isAgg103
  z46 := Tryz.sizeOf103
  v46 := Tryz.zeroValue103
  t51 := Tryz.underlying88
  a51 := Tryz.isAgg88
  z51 := Tryz.sizeOf88
  v51 := Tryz.zeroValue88
  t53 := Tryz.underlying82
  a53 := Tryz.isAgg82
  z53 := Tryz.sizeOf82
  v53 := Tryz.zeroValue82
  t75 := Tryz.underlying75
  a75 := Tryz.isAgg75
  z75 := Tryz.sizeOf75
  v75 := Tryz.zeroValue75
  t76 := Tryz.underlying79
  a76 := Tryz.isAgg79
  z76 := Tryz.sizeOf79
  v76 := Tryz.zeroValue79
  t85 := Tryz.underlying141
  a85 := Tryz.isAgg141
  z85 := Tryz.sizeOf141
  v85 := Tryz.zeroValue141
  t127 := Tryz.underlying109
  a127 := Tryz.isAgg109
  z127 := Tryz.sizeOf109
  v127 := Tryz.zeroValue109
  t143 := Tryz.underlying177
  a143 := Tryz.isAgg177
  z143 := Tryz.sizeOf177
  v143 := Tryz.zeroValue177
  t145 := Tryz.underlying179
  a145 := Tryz.isAgg179
  z145 := Tryz.sizeOf179
  v145 := Tryz.zeroValue179
  t167 := Tryz.underlying140
  a167 := Tryz.isAgg140
  z167 := Tryz.sizeOf140
  v167 := Tryz.zeroValue140
  t168 := Tryz.underlying143
  a168 := Tryz.isAgg143
  z168 := Tryz.sizeOf143
  v168 := Tryz.zeroValue143
  t171 := Tryz.underlying127
  a171 := Tryz.isAgg127
  z171 := Tryz.sizeOf127
  v171 := Tryz.zeroValue127
  t173 := Tryz.underlying129
  a173 := Tryz.isAgg129
  z173 := Tryz.sizeOf129
  v173 := Tryz.zeroValue129
  t175 := Tryz.underlying157
  a175 := Tryz.isAgg157
  z175 := Tryz.sizeOf157
  v175 := Tryz.zeroValue157
  t210 := Tryz.underlying161
  a210 := Tryz.isAgg161
  z210 := Tryz.sizeOf161
  v210 := Tryz.zeroValue161
  t212 := Tryz.underlying151
  a212 := Tryz.isAgg151
  z212 := Tryz.sizeOf151
  v212 := Tryz.zeroValue151
  t213 := Tryz.underlying152
  a213 := Tryz.isAgg152
  z213 := Tryz.sizeOf152
  t232 := Tryz.underlying183
  a232 := Tryz.isAgg183
  z232 := Tryz.sizeOf183
  v232 := Tryz.zeroValue183
  t233 := Tryz.underlying184
  a233 := Tryz.isAgg184
  z233 := Tryz.sizeOf184
  v233 := Tryz.zeroValue184
  g15 := by kernel_rfl
  g16 := by kernel_rfl
  g17 := by kernel_rfl
  g18 := by kernel_rfl
  g19 := by kernel_rfl
  t80 := Tryz.underlying84
  a80 := Tryz.isAgg84
  z80 := Tryz.sizeOf84
  v80 := Tryz.zeroValue84
  i0 := by kernel_rfl
  i2 := by kernel_rfl
  i3 := by kernel_rfl
  i4 := by kernel_rfl
  i5 := by kernel_rfl
  i9 := by kernel_rfl
  i20 := by kernel_rfl
  i21 := by kernel_rfl
  i37 := by kernel_rfl
  i46 := by kernel_rfl
  i51 := by kernel_rfl
  i53 := by kernel_rfl
  i75 := by kernel_rfl
  i76 := by kernel_rfl
  i80 := by kernel_rfl
  i85 := by kernel_rfl
  i127 := by kernel_rfl
  i143 := by kernel_rfl
  i145 := by kernel_rfl
  i167 := by kernel_rfl
  i168 := by kernel_rfl
  i171 := by kernel_rfl
  i173 := by kernel_rfl
  i175 := by kernel_rfl
  i210 := by kernel_rfl
  i212 := by kernel_rfl
  i232 := by kernel_rfl
  i233 := by kernel_rfl
  m15 := by kernel_rfl
  m16 := by kernel_rfl
  m17 := by kernel_rfl
  m18 := by kernel_rfl
  m19 := by kernel_rfl
  c0 := by kernel_rfl
  c2 := by kernel_rfl
  c3 := by kernel_rfl
  c4 := by kernel_rfl
  c5 := by kernel_rfl
  c9 := by kernel_rfl
  c20 := by kernel_rfl
  c21 := by kernel_rfl
  c37 := by kernel_rfl
  c46 := by kernel_rfl
  c51 := by kernel_rfl
  c53 := by kernel_rfl
  c75 := by kernel_rfl
  c76 := by kernel_rfl
  c80 := by kernel_rfl
  c85 := by kernel_rfl
  c127 := by kernel_rfl
  c143 := by kernel_rfl
  c145 := by kernel_rfl
  c167 := by kernel_rfl
  c168 := by kernel_rfl
  c171 := by kernel_rfl
  c173 := by kernel_rfl
  c175 := by kernel_rfl
  c210 := by kernel_rfl
  c212 := by kernel_rfl
  c213 := by kernel_rfl
  c232 := by kernel_rfl
  c233 := by kernel_rfl }
open Go.RowKit in
/-- strconv.Atoi, AT EVERY STRING THAT SPELLS AN int ('Lib.atoiAll .. = .ok v'; of whatever length: leading zeros count): v, AND NO ERROR. The world: as it was, or with the one new row that '[]byte(..)' lays. (LAID: no walk: one application.) -/
theorem Tryz.strconv_Atoi_ok (s : ByteArray) (hmax : s.size ≤ 9223372036854775806) (v : Int) (h : Lib.atoiAll s.data.toList = .ok v) (w : World) :
    Calls Tryz.prog 61 #[.string s] w fun e w' => e = .returned (.tuple #[.int .i64 v, .nilIface]) ∧ (w' = w ∨ ∃ t, w' = Lib.bytesWorld w 5 t) := Any.strconv_Atoi_ok Tryz.laysC172 s hmax v h w
open Go.RowKit in
/-- strconv.Atoi, AT EVERY STRING THAT IS NO DECIMAL NUMERAL ('.syntax'): 0, AND AN ERROR THAT IS NOT nil: a *NumError in a new block N: {Func: "Atoi", Num: s's bytes, Err: what the variable ErrSyntax holds}. Of what was there nothing has turned. (LAID: no walk: one application.) -/
theorem Tryz.strconv_Atoi_syntax (s : ByteArray) (hlim : s.size ≤ 281474976710656) (h : Lib.atoiAll s.data.toList = .«syntax») (ev : Value) (w : World) (hv : w.cell? ⟨4, 0, none⟩ = some ev) (hev : ev = .nilIface ∨ ∃ te pe, ev = .iface te pe) :
    Calls Tryz.prog 61 #[.string s] w fun e w' => ∃ N, e = .returned (.tuple #[.int .i64 (0), .iface 143 (.pointer (some ⟨N, 0, none⟩))]) ∧ w.heap.size ≤ N ∧ w'.heap[N]? = some (.cells #[.string ⟨#[65, 116, 111, 105]⟩, .string s, ev] 161 (0, 0)) ∧ Below w.heap.size w w' := Any.strconv_Atoi_syntax Tryz.laysC172 s hlim h ev w hv hev
open Go.RowKit in
/-- strconv.Atoi, AT EVERY NUMERAL THAT NO int HOLDS ('.range'): THE GREATEST OR THE LEAST int, BY THE SIGN ('Lib.atoiSat'), AND AN ERROR THAT IS NOT nil: a *NumError in a new block N: {Func: "Atoi", Num: s's bytes, Err: what the variable ErrRange holds}. Of what was there nothing has turned. (LAID: no walk: one application.) -/
theorem Tryz.strconv_Atoi_range (s : ByteArray) (hlim : s.size ≤ 281474976710656) (h : Lib.atoiAll s.data.toList = .range) (ev : Value) (w : World) (hv : w.cell? ⟨5, 0, none⟩ = some ev) (hev : ev = .nilIface ∨ ∃ te pe, ev = .iface te pe) :
    Calls Tryz.prog 61 #[.string s] w fun e w' => ∃ N, e = .returned (.tuple #[.int .i64 (Lib.atoiSat s.data.toList), .iface 143 (.pointer (some ⟨N, 0, none⟩))]) ∧ w.heap.size ≤ N ∧ w'.heap[N]? = some (.cells #[.string ⟨#[65, 116, 111, 105]⟩, .string s, ev] 161 (0, 0)) ∧ Below w.heap.size w w' := Any.strconv_Atoi_range Tryz.laysC172 s hlim h ev w hv hev
def Tryz.lays145_ren : Go.Shelf.Ren := ⟨fun | 145 => 24 | 220 => 58 | 219 => 97 | 217 => 132 | 225 => 133 | 224 => 134 | 267 => 135 | 266 => 157 | 314 => 158 | n => n, fun | 9 => 9 | 4 => 4 | 59 => 46 | 3 => 3 | 5 => 5 | 46 => 103 | 146 => 131 | 51 => 88 | n => n, fun | 1 => 2 | n => n⟩
theorem Tryz.lays145 : Go.Proofs.Lays.n145 Tryz.prog Tryz.lays145_ren := {
  mixed := by kernel_rfl
  f145 := Tryz.func24.trans (congrArg some (by kernel_rfl))
  f217 := Tryz.func132.trans (congrArg some (by kernel_rfl))
  f219 := Tryz.func97.trans (congrArg some (by kernel_rfl))
  f220 := Tryz.func58.trans (congrArg some (by kernel_rfl))
  f224 := Tryz.func134.trans (congrArg some (by kernel_rfl))
  f225 := Tryz.func133.trans (congrArg some (by kernel_rfl))
  f266 := Tryz.func157.trans (congrArg some (by kernel_rfl))
  f267 := Tryz.func135.trans (congrArg some (by kernel_rfl))
  f314 := Tryz.func158.trans (congrArg some (by kernel_rfl))
  t3 := Tryz.underlying3
  a3 := Tryz.isAgg3
  z3 := Tryz.sizeOf3
  v3 := Tryz.zeroValue3
  t4 := Tryz.underlying4
  a4 := Tryz.isAgg4
  z4 := Tryz.sizeOf4
  v4 := Tryz.zeroValue4
  t5 := Tryz.underlying5
  a5 := Tryz.isAgg5
  z5 := Tryz.sizeOf5
  v5 := Tryz.zeroValue5
  t9 := Tryz.underlying9
  a9 := Tryz.isAgg9
  z9 := Tryz.sizeOf9
  v9 := Tryz.zeroValue9
  t46 := Tryz.underlying103
  a46 := Tryz.isAgg103
  z46 := Tryz.sizeOf103
  v46 := Tryz.zeroValue103
  t51 := Tryz.underlying88
  a51 := Tryz.isAgg88
  z51 := Tryz.sizeOf88
  v51 := Tryz.zeroValue88
  t59 := Tryz.underlying46
  a59 := Tryz.isAgg46
  z59 := Tryz.sizeOf46
  v59 := Tryz.zeroValue46
  t146 := Tryz.underlying131
  a146 := Tryz.isAgg131
  z146 := Tryz.sizeOf131
  v146 := Tryz.zeroValue131
  g1 := by kernel_rfl }
open Go.RowKit Go.Lib in
/-- strings.Cut: "Cut slices s around the first instance of sep, returning the text before and after sep. The found result reports whether sep appears in s. If sep does not appear in s, cut returns s, "", false.": IT RETURNS 'Lib.cut s sep'; the world is as it was but for the count of draws. (LAID: no walk: one application.) -/
theorem Tryz.strings_Cut (s sep : ByteArray) (m : Int) (w : World) (hs : s.size < 4294967281) (hm : w.cell? ⟨2, 0, none⟩ = some (.int .i64 m)) :
    Calls Tryz.prog 24 #[.string s, .string sep] w fun e w' => e = .returned (.tuple #[.string ⟨(Lib.cut s.data.toList sep.data.toList).1.toArray⟩, .string ⟨(Lib.cut s.data.toList sep.data.toList).2.1.toArray⟩, .bool (Lib.cut s.data.toList sep.data.toList).2.2]) ∧ ∃ n, w' = w.drewN n := Any.strings_Cut Tryz.lays145 s sep m w hs hm
def Tryz.lays105_ren : Go.Shelf.Ren := ⟨fun | 105 => 56 | 212 => 93 | 99 => 94 | 165 => 95 | 166 => 54 | 170 => 96 | 169 => 57 | 263 => 129 | 264 => 130 | 206 => 98 | 240 => 88 | 241 => 131 | 276 => 123 | 277 => 156 | n => n, fun | 9 => 9 | 3 => 3 | 4 => 4 | 20 => 20 | 0 => 0 | 46 => 103 | 109 => 104 | 5 => 5 | 72 => 73 | 76 => 79 | 51 => 88 | 146 => 131 | 53 => 82 | 148 => 101 | 70 => 70 | 37 => 71 | 75 => 75 | 127 => 109 | 164 => 123 | 80 => 84 | n => n, fun | n => n⟩
theorem Tryz.lays105 : Go.Proofs.Lays.n105 Tryz.prog Tryz.lays105_ren := {
  mixed := by kernel_rfl
  f99 := Tryz.func94.trans (congrArg some (by kernel_rfl))
  f105 := Tryz.func56.trans (congrArg some (by kernel_rfl))
  f165 := Tryz.func95.trans (congrArg some (by kernel_rfl))
  f166 := Tryz.func54.trans (congrArg some (by kernel_rfl))
  f169 := Tryz.func57.trans (congrArg some (by kernel_rfl))
  f170 := Tryz.func96.trans (congrArg some (by kernel_rfl))
  f206 := Tryz.func98.trans (congrArg some (by kernel_rfl))
  f212 := Tryz.func93.trans (congrArg some (by kernel_rfl))
  f240 := Tryz.func88.trans (congrArg some (by kernel_rfl))
  f241 := Tryz.func131.trans (congrArg some (by kernel_rfl))
  f263 := Tryz.func129.trans (congrArg some (by kernel_rfl))
  f264 := Tryz.func130.trans (congrArg some (by kernel_rfl))
  f276 := Tryz.func123.trans (congrArg some (by kernel_rfl))
  f277 := Tryz.func156.trans (congrArg some (by kernel_rfl))
  t0 := Tryz.underlying0
  a0 := Tryz.isAgg0
  z0 := Tryz.sizeOf0
  v0 := Tryz.zeroValue0
  t3 := Tryz.underlying3
  a3 := Tryz.isAgg3
  z3 := Tryz.sizeOf3
  v3 := Tryz.zeroValue3
  t4 := Tryz.underlying4
  a4 := Tryz.isAgg4
  z4 := Tryz.sizeOf4
  v4 := Tryz.zeroValue4
  t5 := Tryz.underlying5
  a5 := Tryz.isAgg5
  z5 := Tryz.sizeOf5
  v5 := Tryz.zeroValue5
  t9 := Tryz.underlying9
  a9 := Tryz.isAgg9
  z9 := Tryz.sizeOf9
  v9 := Tryz.zeroValue9
  t20 := Tryz.underlying20
  a20 := Tryz.isAgg20
  z20 := Tryz.sizeOf20
  v20 := Tryz.zeroValue20
  t37 := Tryz.underlying71
  a37 := Tryz.isAgg71
  z37 := Tryz.sizeOf71
  v37 := Tryz.zeroValue71
  t46 := Tryz.underlying103
  a46 := Tryz.isAgg103
  z46 := Tryz.sizeOf103
  v46 := Tryz.zeroValue103
  t51 := Tryz.underlying88
  a51 := Tryz.isAgg88
  z51 := Tryz.sizeOf88
  v51 := Tryz.zeroValue88
  t53 := Tryz.underlying82
  a53 := Tryz.isAgg82
  z53 := Tryz.sizeOf82
  v53 := Tryz.zeroValue82
  t70 := Tryz.underlying70
  a70 := Tryz.isAgg70
  z70 := Tryz.sizeOf70
  v70 := Tryz.zeroValue70
  t72 := Tryz.underlying73
  a72 := Tryz.isAgg73
  z72 := Tryz.sizeOf73
  v72 := Tryz.zeroValue73
  t75 := Tryz.underlying75
  a75 := Tryz.isAgg75
  z75 := Tryz.sizeOf75
  v75 := Tryz.zeroValue75
  t76 := Tryz.underlying79
  a76 := Tryz.isAgg79
  z76 := Tryz.sizeOf79
  v76 := Tryz.zeroValue79
  t109 := Tryz.underlying104
  a109 := Tryz.isAgg104
  z109 := Tryz.sizeOf104
  v109 := Tryz.zeroValue104
  t127 := Tryz.underlying109
  a127 := Tryz.isAgg109
  z127 := Tryz.sizeOf109
  v127 := Tryz.zeroValue109
  t146 := Tryz.underlying131
  a146 := Tryz.isAgg131
  z146 := Tryz.sizeOf131
  v146 := Tryz.zeroValue131
  t148 := Tryz.underlying101
  a148 := Tryz.isAgg101
  z148 := Tryz.sizeOf101
  v148 := Tryz.zeroValue101
  t164 := Tryz.underlying123
  a164 := Tryz.isAgg123
  z164 := Tryz.sizeOf123
  v164 := Tryz.zeroValue123 }
end Go.Proofs
