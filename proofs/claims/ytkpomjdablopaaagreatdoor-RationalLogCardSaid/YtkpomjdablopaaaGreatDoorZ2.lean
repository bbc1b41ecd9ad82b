/- My texts, packed: W6, W7, W8, W9, Wa, Wb, Wc, Math4. -/
import Derived.Test.YtkpomjdablopaaaGreatDoorZ1
import Derived.Lib.QuietBelow
import Derived.Laws.AppendOwnNone
/- Walks: combine, subtractWords. -/
namespace Go.Proofs.YtkpomjdablopaaaGreatDoor
open Go.RowKit
set_option linter.unusedVariables false

theorem and_low (n : Nat) (h : n < 18446744073709551616) : bits BinOp.and IntKind.u64 (n : Int) 4294967295 = ((n % 4294967296 : Nat) : Int) := by
  have := u64_and_nat n 4294967295 h (by decide)
  rw [show ((4294967295 : Nat) : Int) = 4294967295 from rfl] at this
  rw [this, show (4294967295 : Nat) = 2 ^ 32 - 1 from rfl, Nat.and_two_pow_sub_one_eq_mod]

/-- a word of a difference -/
theorem diff_word (p q : Nat) : ∃ r bo : Nat, IntKind.u64.wrap (((p % 4294967296 : Nat) : Int) - ((q % 4294967296 : Nat) : Int)) % 4294967296 = (r : Int) ∧
    IntKind.u64.wrap (((p % 4294967296 : Nat) : Int) - ((q % 4294967296 : Nat) : Int)) / 9223372036854775808 = (bo : Int) ∧ r + q % 4294967296 = p % 4294967296 + 4294967296 * bo ∧ r < 4294967296 ∧ bo ≤ 1 := by
  rw [IntKind.wrap_u64]
  by_cases h : q % 4294967296 ≤ p % 4294967296
  · exact ⟨p % 4294967296 - q % 4294967296, 0, by omega, by omega, by omega, by omega, by omega⟩
  · exact ⟨p % 4294967296 + 4294967296 - q % 4294967296, 1, by omega, by omega, by omega, by omega, by omega⟩

set_option maxRecDepth 100000 in
set_option maxHeartbeats 1000000 in
theorem combine_any (m : Nat) (A : Option Addr) (ca : Nat) (a : List Nat) (n : Nat) (B : Option Addr) (cb : Nat) (b : List Nat) (w : World) (ha : Sl w w.heap.size A ca a) (hb : Sl w w.heap.size B cb b) (hla : a.length ≤ 999999999) (hlb : b.length ≤ 999999999)
    (hm : m < 4294967296) (hn : n < 4294967296) (hle : n * Kn.val b ≤ m * Kn.val a) (hlt : m * Kn.val a - n * Kn.val b < Kn.pw a.length) :
    Calls Tryz.prog 150 #[.int .u64 (m : Int), .slice A a.length ca, .int .u64 (n : Int), .slice B b.length cb] w (MagRes (m * Kn.val a - n * Kn.val b) w) := by
  have HLE := Lib.hid hle
  have HLT := Lib.hid hlt
  clear hle hlt
  have hmk := makeU32 a.length (by omega) ((a.length : Nat) : Int) rfl
  go_enter Tryz.func150, Tryz.ntmps150
  go_wp2_with fail
  have F0 := FillW.new_ w a.length
  revert F0
  generalize w.alloc (.cells (ncells .u32 (List.replicate a.length 0)) 88) = w1
  intro F0
  clear hmk
  go_loopw [10, 11, 12, 21] (fun pv mv bv iv wr => ∃ k plus minus bo vs, k ≤ a.length ∧ iv = .int .i64 (k : Nat) ∧ pv = .int .u64 (plus : Nat) ∧ mv = .int .u64 (minus : Nat) ∧ bv = .int .u64 (bo : Nat) ∧ plus < 4294967296 ∧ minus < 4294967296 ∧ bo ≤ 1 ∧ FillW w wr w.heap.size a.length vs ∧
    Hid (Kn.val (vs.take k) + n * Kn.val (b.take k) + Kn.pw k * plus = m * Kn.val (a.take k) + Kn.pw k * (minus + bo))) (fun _ _ _ iv _ => a.length - (intOf iv).toNat)
  case atStart => exact ⟨0, 0, 0, 0, _, Nat.zero_le _, rfl, rfl, rfl, rfl, by omega, by omega, by omega, F0, Lib.hid (by simp [Kn.val])⟩
  case round =>
    obtain ⟨k, plus, minus, bo, vs, hk, rfl, rfl, rfl, rfl, hp, hmi, hbo, F, HI⟩ := hrel
    by_cases hlt : k < a.length
    · obtain ⟨b1, o1, x, rfl, hb1, hc1, hx, hxl⟩ := (ha.below F.bel).word hlt
      have hcg := F.row.cell (k := k) (by have := F.len; omega)
      have hfg := F.row.frozen k
      obtain ⟨mx, hmx⟩ : ∃ mx : Nat, Hid (mx = m * x) := ⟨_, Lib.hid rfl⟩
      have hmxl : mx ≤ 18446744065119617025 := by rw [hmx.out]; exact Nat.le_trans (Nat.mul_le_mul (show m ≤ 4294967295 by omega) (show x ≤ 4294967295 by omega)) (by decide)
      have hmxw : Hid (IntKind.u64.wrap ((m : Int) * (x : Int)) = (mx : Int)) := Lib.hid (by rw [← Int.natCast_mul, ← hmx.out]; exact wrap_nat (by omega))
      by_cases hlt2 : k < b.length
      · obtain ⟨b2, o2, y, rfl, hb2, hc2, hy, hyl⟩ := (hb.below F.bel).word hlt2
        have hlt3 : decide (k < b.length) = true := by simp [hlt2]
        obtain ⟨ny, hny⟩ : ∃ ny : Nat, Hid (ny = n * y) := ⟨_, Lib.hid rfl⟩
        have hnyl : ny ≤ 18446744065119617025 := by rw [hny.out]; exact Nat.le_trans (Nat.mul_le_mul (show n ≤ 4294967295 by omega) (show y ≤ 4294967295 by omega)) (by decide)
        have hnyw : Hid (IntKind.u64.wrap ((n : Int) * (y : Int)) = (ny : Int)) := Lib.hid (by rw [← Int.natCast_mul, ← hny.out]; exact wrap_nat (by omega))
        have eq : Hid (IntKind.u64.wrap ((minus : Int) + (bo : Int) + (ny : Int)) = ((minus + bo + ny : Nat) : Int)) := Lib.hid (by rw [← Int.natCast_add, ← Int.natCast_add]; exact wrap_nat (by omega))
        obtain ⟨r, bo', D1, D2, D3, D4, D5⟩ := diff_word (plus + mx) (minus + bo + ny)
        have HD1 := Lib.hid D1
        have HD2 := Lib.hid D2
        have HD3 := Lib.hid D3
        clear D1 D2 D3
        have hp2 : (plus + mx) / 4294967296 < 4294967296 := by omega
        have hq2 : (minus + bo + ny) / 4294967296 < 4294967296 := by omega
        have ep : Hid (IntKind.u64.wrap ((plus : Int) + (mx : Int)) = ((plus + mx : Nat) : Int)) := Lib.hid (by rw [← Int.natCast_add]; exact wrap_nat (by omega))
        have al : Hid (bits BinOp.and IntKind.u64 ((plus + mx : Nat) : Int) 4294967295 = (((plus + mx) % 4294967296 : Nat) : Int)) := Lib.hid (and_low _ (by omega))
        have aq : Hid (bits BinOp.and IntKind.u64 ((minus + bo + ny : Nat) : Int) 4294967295 = (((minus + bo + ny) % 4294967296 : Nat) : Int)) := Lib.hid (and_low _ (by omega))
        go_wp2_with fail
        rw [hmxw.out, ep.out, al.out]
        rw [hnyw.out, eq.out]
        rw [aq.out, HD1.out, HD2.out, show ((plus + mx : Nat) : Int) / 4294967296 = (((plus + mx) / 4294967296 : Nat) : Int) by omega, show ((minus + bo + ny : Nat) : Int) / 4294967296 = (((minus + bo + ny) / 4294967296 : Nat) : Int) by omega]
        have F2 := F.put k (x := r) D4
        have HI2 := Lib.hid (Kn.comb_step (by have := F.len; omega) HI.out (p := plus + mx) (by rw [hmx.out, hx.out]) (q := minus + bo + ny) (by rw [hny.out, hy.out]) HD3.out)
        go_roundw
        case rel => exact ⟨k + 1, _, _, _, _, by omega, by go_num, rfl, rfl, rfl, hp2, hq2, D5, F2, HI2⟩
        case measure => simp [intOf]; omega
      · have hlt3 : decide (k < b.length) = false := by simp; omega
        have hy0 : Hid (b.getD k 0 = 0) := Lib.hid (by rw [List.getD_eq_getElem?_getD, List.getElem?_eq_none (by omega)]; rfl)
        obtain ⟨r, bo', D1, D2, D3, D4, D5⟩ := diff_word (plus + mx) (minus + bo)
        have HD1 := Lib.hid D1
        have HD2 := Lib.hid D2
        have HD3 := Lib.hid D3
        clear D1 D2 D3
        have hp2 : (plus + mx) / 4294967296 < 4294967296 := by omega
        have hq2 : (minus + bo) / 4294967296 < 4294967296 := by omega
        have ep : Hid (IntKind.u64.wrap ((plus : Int) + (mx : Int)) = ((plus + mx : Nat) : Int)) := Lib.hid (by rw [← Int.natCast_add]; exact wrap_nat (by omega))
        have al : Hid (bits BinOp.and IntKind.u64 ((plus + mx : Nat) : Int) 4294967295 = (((plus + mx) % 4294967296 : Nat) : Int)) := Lib.hid (and_low _ (by omega))
        have aq : Hid (bits BinOp.and IntKind.u64 ((minus + bo : Nat) : Int) 4294967295 = (((minus + bo) % 4294967296 : Nat) : Int)) := Lib.hid (and_low _ (by omega))
        go_wp2_with fail
        rw [hmxw.out, ep.out, al.out]
        rw [show (minus : Int) + (bo : Int) = ((minus + bo : Nat) : Int) by omega]
        rw [aq.out, HD1.out, HD2.out, show ((plus + mx : Nat) : Int) / 4294967296 = (((plus + mx) / 4294967296 : Nat) : Int) by omega, show ((minus + bo : Nat) : Int) / 4294967296 = (((minus + bo) / 4294967296 : Nat) : Int) by omega]
        have F2 := F.put k (x := r) D4
        have HI2 := Lib.hid (Kn.comb_step (by have := F.len; omega) HI.out (p := plus + mx) (by rw [hmx.out, hx.out]) (q := minus + bo) (by rw [hy0.out, Nat.mul_zero, Nat.add_zero]) HD3.out)
        go_roundw
        case rel => exact ⟨k + 1, _, _, _, _, by omega, by go_num, rfl, rfl, rfl, hp2, hq2, D5, F2, HI2⟩
        case measure => simp [intOf]; omega
    · obtain rfl : k = a.length := by omega
      have HV : Hid (Kn.val vs = m * Kn.val a - n * Kn.val b) := Lib.hid (Kn.comb_end F.wd F.len HI.out HLE.out HLT.out)
      have hvl := F.len
      have HVL := Lib.hid hvl
      have hT := trim_any (some ⟨w.heap.size, 0, none⟩) a.length vs _ _ F.sl (by omega)
      rw [hvl] at hT
      have HT := Lib.hid hT
      clear hvl hT
      go_wp2_with fail
      refine HT.out.mono ?_
      rintro e w' ⟨rfl, rfl⟩
      go_wp2_with fail
      go_ret
      exact F.mag HV.out

set_option maxHeartbeats 400000 in
theorem subtractWords_any (A : Option Addr) (ca : Nat) (a : List Nat) (B : Option Addr) (cb : Nat) (b : List Nat) (w : World) (ha : Sl w w.heap.size A ca a) (hb : Sl w w.heap.size B cb b) (hla : a.length ≤ 999999999) (hlb : b.length ≤ 999999999) (hle : Kn.val b ≤ Kn.val a) :
    Calls Tryz.prog 122 #[.slice A a.length ca, .slice B b.length cb] w (MagRes (Kn.val a - Kn.val b) w) := by
  have h := combine_any 1 A ca a 1 B cb b w ha hb hla hlb (by decide) (by decide) (by omega) (by have := Kn.val_lt ha.wd; omega)
  rw [Nat.one_mul, Nat.one_mul] at h
  have H := Lib.hid h
  clear h
  clear hle
  go_enter Tryz.func122, Tryz.ntmps122
  go_wp2_with fail
  refine H.out.mono ?_
  rintro e w' ⟨A', c', rfl, hS, hB⟩
  go_wp2_with fail
  go_ret
  exact ⟨A', c', rfl, hS, hB⟩
end Go.Proofs.YtkpomjdablopaaaGreatDoor
/- Walks: addSigned, Add, Sub. -/
namespace Go.Proofs.YtkpomjdablopaaaGreatDoor
open Go.RowKit
set_option linter.unusedVariables false

/-- a call's world with two arguments' boxes and the result's -/
structure B3 (w wr : World) (nx : Bool) (A : Option Addr) (n ca : Nat) (ny : Bool) (B : Option Addr) (m cb : Nat) : Prop where
  t1 : Two wr w.heap.size (.bool nx) (.slice A n ca)
  t2 : Two wr (w.heap.size + 1) (.bool ny) (.slice B m cb)
  t3 : Two wr (w.heap.size + 2) (.bool false) (.slice none 0 0)
  bel : Below w.heap.size w wr
section
variable {w wr wx : World} {nx ny : Bool} {A B : Option Addr} {n m ca cb : Nat}
theorem B3.below (h : B3 w wr nx A n ca ny B m cb) (hb : Below wr.heap.size wr wx) : B3 w wx nx A n ca ny B m cb := ⟨h.t1.below hb h.t1.lt, h.t2.below hb h.t2.lt, h.t3.below hb h.t3.lt, h.bel.trans (hb.mono h.bel.size)⟩
theorem B3.drew (h : B3 w wr nx A n ca ny B m cb) : B3 w wr.drew nx A n ca ny B m cb := ⟨h.t1.drew, h.t2.drew, h.t3.drew, bDrew1 h.bel⟩
theorem B3.drewN (h : B3 w wr nx A n ca ny B m cb) (q : Nat) : B3 w (wr.drewN q) nx A n ca ny B m cb := ⟨h.t1.drewN q, h.t2.drewN q, h.t3.drewN q, bDrew h.bel q⟩
theorem B3.new_ (w : World) (nx : Bool) (A : Option Addr) (n ca : Nat) (ny : Bool) (B : Option Addr) (m cb : Nat) (T : TypeId) :
    B3 w (((w.alloc (.cells #[.bool nx, .slice A n ca] T)).alloc (.cells #[.bool ny, .slice B m cb] T)).alloc (.cells #[.bool false, .slice none 0 0] T)) nx A n ca ny B m cb :=
  ⟨((Two.new_ _ _ _ _).alloc _).alloc _, by simpa using (Two.new_ (w.alloc (.cells #[.bool nx, .slice A n ca] T)) (.bool ny) (.slice B m cb) T).alloc (.cells #[.bool false, .slice none 0 0] T),
    by simpa using Two.new_ ((w.alloc (.cells #[.bool nx, .slice A n ca] T)).alloc (.cells #[.bool ny, .slice B m cb] T)) (.bool false) (.slice none 0 0) T,
    (((Below.refl _ _).alloc (Nat.le_refl _) _).alloc (by simp) _).alloc (by simp; omega) _⟩
theorem B3.fin (h : B3 w wr nx A n ca ny B m cb) {z : Int} {A' : Option Addr} {c' : Nat} (hs : Sl wr wr.heap.size A' c' (Kn.dig z.natAbs)) :
    IntRes z w (.returned (.agg #[.bool (decide (z < 0)), .slice A' (Kn.dig z.natAbs).length c'])) ((wr.setCell ⟨w.heap.size + 2, 0, none⟩ (.bool (decide (z < 0)))).setCell ⟨w.heap.size + 2, 1, none⟩ (.slice A' (Kn.dig z.natAbs).length c')) := by
  refine ⟨A', c', rfl, ?_, ?_⟩
  · have := hs.put h.t3 (.bool (decide (z < 0))) (.slice A' (Kn.dig z.natAbs).length c')
    exact this.more (by simp [World.setCell])
  · exact (h.bel.setCell (p := ⟨w.heap.size + 2, 0, none⟩) (by simp) _).setCell (p := ⟨w.heap.size + 2, 1, none⟩) (by simp) _
end

theorem compare_lt (A : Option Addr) (ca : Nat) (n : Nat) (B : Option Addr) (cb : Nat) (m : Nat) (w : World) (P : Nat) (ha : Sl w P A ca (Kn.dig n)) (hb : Sl w P B cb (Kn.dig m)) (hla : (Kn.dig n).length ≤ 1000000000) (hlb : (Kn.dig m).length ≤ 1000000000) (h : n < m) :
    Calls Tryz.prog 116 #[.slice A (Kn.dig n).length ca, .slice B (Kn.dig m).length cb] w fun e w' => e = .returned (.int .i64 (-1)) ∧ ∃ q, w' = w.drewN q := by
  have := compareWords_any A ca n B cb m w P ha hb hla hlb
  rwa [Kn.cmp_lt h] at this
theorem compare_ge (A : Option Addr) (ca : Nat) (n : Nat) (B : Option Addr) (cb : Nat) (m : Nat) (w : World) (P : Nat) (ha : Sl w P A ca (Kn.dig n)) (hb : Sl w P B cb (Kn.dig m)) (hla : (Kn.dig n).length ≤ 1000000000) (hlb : (Kn.dig m).length ≤ 1000000000) (h : m ≤ n) :
    Calls Tryz.prog 116 #[.slice A (Kn.dig n).length ca, .slice B (Kn.dig m).length cb] w fun e w' => ∃ c : Nat, e = .returned (.int .i64 (c : Int)) ∧ ∃ q, w' = w.drewN q := by
  have := compareWords_any A ca n B cb m w P ha hb hla hlb
  rcases Nat.eq_or_lt_of_le h with h | h
  · rw [h, Kn.cmp_self] at this
    rw [h]
    exact this.mono fun _ _ ⟨he, hq⟩ => ⟨0, he, hq⟩
  · rw [Kn.cmp_gt h] at this
    exact this.mono fun _ _ ⟨he, hq⟩ => ⟨1, he, hq⟩
theorem iv_dig_add (s : Bool) (xs ys : List Nat) : Kn.iv s (Kn.dig (Kn.val xs + Kn.val ys)) = Kn.iv s xs + Kn.iv s ys := by
  unfold Kn.iv; rw [Kn.val_dig]; cases s <;> simp <;> omega
theorem iv_dig_sub (s : Bool) (xs ys : List Nat) (h : Kn.val ys ≤ Kn.val xs) : Kn.iv s (Kn.dig (Kn.val xs - Kn.val ys)) = Kn.iv s xs + Kn.iv (!s) ys := by
  unfold Kn.iv; rw [Kn.val_dig]; cases s <;> simp <;> omega
theorem dig_len_add {xs ys : List Nat} (hx : Kn.Wd xs) (hy : Kn.Wd ys) : (Kn.dig (Kn.val xs + Kn.val ys)).length ≤ max xs.length ys.length + 1 := by
  refine Kn.dig_len_le ?_
  have h1 := Kn.val_lt hx
  have h2 := Kn.val_lt hy
  have h3 := Kn.pw_mono (show xs.length ≤ max xs.length ys.length by omega)
  have h4 := Kn.pw_mono (show ys.length ≤ max xs.length ys.length by omega)
  rw [Kn.pw_succ]; omega

set_option maxRecDepth 100000 in
set_option maxHeartbeats 1000000 in
theorem addSigned_any (nx : Bool) (A : Option Addr) (ca : Nat) (xs : List Nat) (ny : Bool) (B : Option Addr) (cb : Nat) (ys : List Nat) (ng : Bool) (w : World) (hx : Sl w w.heap.size A ca xs) (hy : Sl w w.heap.size B cb ys) (hlx : xs.length ≤ 99999999) (hly : ys.length ≤ 99999999) :
    Calls Tryz.prog 86 #[intV nx A xs.length ca, intV ny B ys.length cb, .bool ng] w (IntRes (Kn.iv nx xs + Kn.iv ng ys) w) := by
  have hdx : (Kn.dig (Kn.val xs)).length ≤ 99999999 := Nat.le_trans (Kn.dig_len_val hx.wd) hlx
  have hdy : (Kn.dig (Kn.val ys)).length ≤ 99999999 := Nat.le_trans (Kn.dig_len_val hy.wd) hly
  have hvx := Lib.hid (Kn.val_dig (Kn.val xs))
  have hvy := Lib.hid (Kn.val_dig (Kn.val ys))
  have key : ∀ (w1 : World), B3 w w1 nx A xs.length ca ny B ys.length cb → Sl w1 w1.heap.size A ca (Kn.dig (Kn.val xs)) ∧ Sl w1 w1.heap.size B cb (Kn.dig (Kn.val ys)) := fun w1 i =>
    ⟨((hx.below i.bel).more i.bel.size).trim, ((hy.below i.bel).more i.bel.size).trim⟩
  have KEY := Lib.hid key
  clear key
  obtain ⟨z, hz⟩ : ∃ z : Int, z = Kn.iv nx xs + Kn.iv ng ys := ⟨_, rfl⟩
  rw [← hz]
  have HZ := Lib.hid hz
  clear hz
  unfold intV
  by_cases hs : nx = ng
  · subst hs
    go_enter Tryz.func86, Tryz.ntmps86
    go_wp2_with fail
    have i := B3.new_ w nx A xs.length ca ny B ys.length cb 24
    revert i
    generalize ((w.alloc (.cells #[.bool nx, .slice A xs.length ca] 24)).alloc (.cells #[.bool ny, .slice B ys.length cb] 24)).alloc (.cells #[.bool false, .slice none 0 0] 24) = wx
    intro i
    have c11 := i.t1.c1
    have c21 := i.t2.c1
    have hX := (hx.below i.bel).more i.bel.size
    have hY := (hy.below i.bel).more i.bel.size
    go_quiet (first
      | (go_at_call 65; with_reducible exact quiet_of_eq (trim_any A ca xs _ _ (hX.drewN _) (by omega)))
      | (go_at_call 65; with_reducible exact quiet_of_eq (trim_any B cb ys _ _ (hY.drewN _) (by omega))))
    replace i := i.drewN nq
    clear c11 c21 hX hY
    revert i
    generalize wx.drewN nq = wy
    intro i
    have c10 := i.t1.c0
    obtain ⟨hX, hY⟩ := KEY.out _ i
    go_wp2_with fail
    refine (addWords_any A ca _ B cb _ _ hX hY (by omega) (by omega)).mono ?_
    rintro e w3 ⟨A3, c3, rfl, hS, hb3⟩
    replace i := i.below hb3
    clear hX hY c10
    rw [hvx.out, hvy.out] at hS ⊢
    go_wp2_with fail
    refine (signed_any nx A3 c3 _ _ hS (by have := dig_len_add hx.wd hy.wd; omega)).mono ?_
    rintro e w4 ⟨A4, c4, rfl, hS4, hb4⟩
    replace i := i.below hb4
    have d20 := i.t3.c0
    have d21 := i.t3.c1
    have f20 := i.t3.fr 0
    have f21 := i.t3.fr 1
    rw [show Kn.iv nx (Kn.dig (Kn.val xs + Kn.val ys)) = z by rw [HZ.out, iv_dig_add]] at hS4 ⊢
    have R := Lib.hid (two_set w4 (.bool (decide (z < 0))) (.slice A4 (Kn.dig z.natAbs).length c4) d20 d21)
    go_wp2_with fail
    obtain ⟨r0, r1⟩ := R.out
    refine bodyPost_ret (v := .agg #[.bool (decide (z < 0)), .slice A4 (Kn.dig z.natAbs).length c4]) (by simp [results, Tryz.results86, go_sem, r0, r1]) rfl ?_
    exact i.fin hS4
  · obtain rfl : ng = !nx := by cases nx <;> cases ng <;> simp_all
    have hsb : (nx == !nx) = false := by cases nx <;> rfl
    clear hs
    go_enter Tryz.func86, Tryz.ntmps86
    go_wp2_with fail
    have i := B3.new_ w nx A xs.length ca ny B ys.length cb 24
    revert i
    generalize ((w.alloc (.cells #[.bool nx, .slice A xs.length ca] 24)).alloc (.cells #[.bool ny, .slice B ys.length cb] 24)).alloc (.cells #[.bool false, .slice none 0 0] 24) = wx
    intro i
    have c11 := i.t1.c1
    have c21 := i.t2.c1
    have hX := (hx.below i.bel).more i.bel.size
    have hY := (hy.below i.bel).more i.bel.size
    go_quiet (first
      | (go_at_call 65; with_reducible exact quiet_of_eq (trim_any A ca xs _ _ (hX.drewN _) (by omega)))
      | (go_at_call 65; with_reducible exact quiet_of_eq (trim_any B cb ys _ _ (hY.drewN _) (by omega))))
    replace i := i.drewN nq
    clear c11 c21 hX hY
    revert i
    generalize wx.drewN nq = wy
    intro i
    have c10 := i.t1.c0
    obtain ⟨hX, hY⟩ := KEY.out _ i
    by_cases hlt : Kn.val xs < Kn.val ys
    · have HLT := Lib.hid hlt
      clear hlt
      go_wp2_with fail
      refine (compare_lt A ca _ B cb _ _ _ hX hY (by omega) (by omega) HLT.out).mono ?_
      rintro e w2 ⟨rfl, q, rfl⟩
      clear c10 hX hY
      replace i := i.drewN q
      revert i
      generalize wy.drewN q = wz
      intro i
      obtain ⟨hX, hY⟩ := KEY.out _ i
      go_wp2_with fail
      refine (subtractWords_any B cb _ A ca _ _ hY hX (by omega) (by omega) (by rw [hvx.out, hvy.out]; exact Nat.le_of_lt HLT.out)).mono ?_
      rintro e w3 ⟨A3, c3, rfl, hS, hb3⟩
      replace i := i.below hb3
      clear hX hY
      rw [hvx.out, hvy.out] at hS ⊢
      go_wp2_with fail
      refine (signed_any (!nx) A3 c3 _ _ hS (by have := Kn.dig_len_le (n := Kn.val ys - Kn.val xs) (k := ys.length) (by have := Kn.val_lt hy.wd; omega); omega)).mono ?_
      rintro e w4 ⟨A4, c4, rfl, hS4, hb4⟩
      replace i := i.below hb4
      have d20 := i.t3.c0
      have d21 := i.t3.c1
      have f20 := i.t3.fr 0
      have f21 := i.t3.fr 1
      rw [show Kn.iv (!nx) (Kn.dig (Kn.val ys - Kn.val xs)) = z by rw [HZ.out, iv_dig_sub _ _ _ (Nat.le_of_lt HLT.out), Bool.not_not]; omega] at hS4 ⊢
      have R := Lib.hid (two_set w4 (.bool (decide (z < 0))) (.slice A4 (Kn.dig z.natAbs).length c4) d20 d21)
      go_wp2_with fail
      obtain ⟨r0, r1⟩ := R.out
      refine bodyPost_ret (v := .agg #[.bool (decide (z < 0)), .slice A4 (Kn.dig z.natAbs).length c4]) (by simp [results, Tryz.results86, go_sem, r0, r1]) rfl ?_
      exact i.fin hS4
    · have hge : Kn.val ys ≤ Kn.val xs := by omega
      have HGE := Lib.hid hge
      clear hge hlt
      go_wp2_with fail
      refine (compare_ge A ca _ B cb _ _ _ hX hY (by omega) (by omega) HGE.out).mono ?_
      rintro e w2 ⟨cc, rfl, q, rfl⟩
      have hcc : ¬ ((cc : Int) < 0) := by omega
      clear c10 hX hY
      replace i := i.drewN q
      revert i
      generalize wy.drewN q = wz
      intro i
      have c10 := i.t1.c0
      go_wp2_with fail
      replace i := i.drew
      obtain ⟨hX, hY⟩ := KEY.out _ i
      go_region_held3 (fun w' => w'.cell? ⟨w.heap.size, 0, none⟩ = some (.bool nx))
        (first | exact i.t1.c0 | exact ((i.t1.far (by simp; omega) _).far (by simp; omega) _).c0)
        (first
          | (go_at_call 122; refine (subtractWords_any A ca _ B cb _ _ hX hY (by omega) (by omega) (by rw [hvx.out, hvy.out]; exact HGE.out)).mono ?_; rintro e w3 ⟨A3, c3, rfl, hS, hb3⟩; replace i := i.below hb3; rw [hvx.out, hvy.out] at hS ⊢)
          | (go_at_call 63; refine (signed_any nx A3 c3 _ _ hS (by have := Kn.dig_len_le (n := Kn.val xs - Kn.val ys) (k := xs.length) (by have := Kn.val_lt hx.wd; omega); omega)).mono ?_; rintro e w4 ⟨A4, c4, rfl, hS4, hb4⟩; replace i := i.below hb4; have d20 := i.t3.c0; have d21 := i.t3.c1; have f20 := i.t3.fr 0; have f21 := i.t3.fr 1))
      rw [show Kn.iv nx (Kn.dig (Kn.val xs - Kn.val ys)) = z by rw [HZ.out, iv_dig_sub _ _ _ HGE.out]] at hS4 ⊢
      have R := Lib.hid (two_set w4 (.bool (decide (z < 0))) (.slice A4 (Kn.dig z.natAbs).length c4) d20 d21)
      clear d20 d21 f20 f21
      go_wp2_with fail
      obtain ⟨r0, r1⟩ := R.out
      refine bodyPost_ret (v := .agg #[.bool (decide (z < 0)), .slice A4 (Kn.dig z.natAbs).length c4]) (by simp [results, Tryz.results86, go_sem, r0, r1]) rfl ?_
      exact i.fin hS4

theorem iv_not (s : Bool) (l : List Nat) : Kn.iv (!s) l = - Kn.iv s l := by unfold Kn.iv; cases s <;> simp

set_option maxRecDepth 100000 in
set_option maxHeartbeats 1000000 in
theorem add_any (nx : Bool) (A : Option Addr) (ca : Nat) (xs : List Nat) (ny : Bool) (B : Option Addr) (cb : Nat) (ys : List Nat) (w : World) (hx : Sl w w.heap.size A ca xs) (hy : Sl w w.heap.size B cb ys) (hlx : xs.length ≤ 99999999) (hly : ys.length ≤ 99999999) :
    Calls Tryz.prog 49 #[intV nx A xs.length ca, intV ny B ys.length cb] w (IntRes (Kn.iv nx xs + Kn.iv ny ys) w) := by
  obtain ⟨z, hz⟩ : ∃ z : Int, z = Kn.iv nx xs + Kn.iv ny ys := ⟨_, rfl⟩
  rw [← hz]
  have HZ := Lib.hid hz
  clear hz
  have hA : ∀ w : World, Sl w w.heap.size A ca xs → Sl w w.heap.size B cb ys → Calls Tryz.prog 86 #[.agg #[.bool nx, .slice A xs.length ca], .agg #[.bool ny, .slice B ys.length cb], .bool ny] w (IntRes z w) := fun w hx hy => by
    have := addSigned_any nx A ca xs ny B cb ys ny w hx hy hlx hly
    rwa [show Kn.iv nx xs + Kn.iv ny ys = z by rw [HZ.out]] at this
  have HA := Lib.hid hA
  clear hA
  unfold intV
  go_enter Tryz.func49, Tryz.ntmps49
  go_wp2_with fail
  have i := B3.new_ w nx A xs.length ca ny B ys.length cb 24
  revert i
  generalize ((w.alloc (.cells #[.bool nx, .slice A xs.length ca] 24)).alloc (.cells #[.bool ny, .slice B ys.length cb] 24)).alloc (.cells #[.bool false, .slice none 0 0] 24) = wx
  intro i
  have c10 := i.t1.c0
  have c11 := i.t1.c1
  have c20 := i.t2.c0
  have c21 := i.t2.c1
  go_wp2_with fail
  refine (HA.out _ ((hx.below i.bel).more i.bel.size) ((hy.below i.bel).more i.bel.size)).mono ?_
  rintro e w4 ⟨A4, c4, rfl, hS4, hb4⟩
  replace i := i.below hb4
  clear c10 c11 c20 c21
  have d20 := i.t3.c0
  have d21 := i.t3.c1
  have f20 := i.t3.fr 0
  have f21 := i.t3.fr 1
  have R := Lib.hid (two_set w4 (.bool (decide (z < 0))) (.slice A4 (Kn.dig z.natAbs).length c4) d20 d21)
  go_wp2_with fail
  obtain ⟨r0, r1⟩ := R.out
  refine bodyPost_ret (v := .agg #[.bool (decide (z < 0)), .slice A4 (Kn.dig z.natAbs).length c4]) (by simp [results, Tryz.results49, go_sem, r0, r1]) rfl ?_
  exact i.fin hS4

end Go.Proofs.YtkpomjdablopaaaGreatDoor
/- Walks: multiplyWords. -/
namespace Go.Proofs.YtkpomjdablopaaaGreatDoor
open Go.RowKit
set_option linter.unusedVariables false

set_option maxRecDepth 100000 in
set_option maxHeartbeats 2000000 in
theorem multiplyWords_any (A : Option Addr) (ca : Nat) (a : List Nat) (B : Option Addr) (cb : Nat) (b : List Nat) (w : World) (ha : Sl w w.heap.size A ca a) (hb : Sl w w.heap.size B cb b) (hla : a.length ≤ 99999999) (hlb : b.length ≤ 99999999) :
    Calls Tryz.prog 108 #[.slice A a.length ca, .slice B b.length cb] w (MagRes (Kn.val a * Kn.val b) w) := by
  have hmk := makeU32 (a.length + b.length) (by omega) (((a.length : Nat) : Int) + ((b.length : Nat) : Int)) (by omega)
  have e1 : (((a.length : Nat) : Int) + ((b.length : Nat) : Int)).toNat = a.length + b.length := by omega
  go_enter Tryz.func108, Tryz.ntmps108
  go_wp2_with fail
  have F0 := FillW.new_ w (a.length + b.length)
  revert F0
  generalize w.alloc (.cells (ncells .u32 (List.replicate (a.length + b.length) 0)) 88) = w1
  intro F0
  clear hmk
  go_loopw [20] (fun iv wr => ∃ k vs, k ≤ a.length ∧ iv = .int .i64 (k : Nat) ∧ FillW w wr w.heap.size (a.length + b.length) vs ∧
    Hid (Kn.val vs = Kn.val (a.take k) * Kn.val b ∧ ∀ t, k + b.length ≤ t → vs.getD t 0 = 0)) (fun iv _ => a.length - (intOf iv).toNat)
  case atStart => exact ⟨0, _, Nat.zero_le _, rfl, F0, Lib.hid ⟨by rw [Kn.val_zeros]; simp [Kn.val], fun t _ => by rw [List.getD_eq_getElem?_getD, List.getElem?_replicate]; split <;> rfl⟩⟩
  case round =>
    obtain ⟨k, vs, hk, rfl, F, HI⟩ := hrel
    by_cases hlt : k < a.length
    · obtain ⟨b1, o1, x, rfl, hb1, hc1, hx, hxl⟩ := (ha.below F.bel).word hlt
      have hne : ¬ (a.length + b.length = k) := by omega
      have e2 : (((k : Nat) : Int) + ((b.length : Nat) : Int)).toNat = k + b.length := by omega
      go_wp2_with fail
      obtain ⟨wo, rfl⟩ : ∃ wo : World, wo = wr := ⟨_, rfl⟩
      go_loopw [8, 34] (fun cv jv wi => ∃ j cr us, j ≤ b.length ∧ jv = .int .i64 (j : Nat) ∧ cv = .int .u64 (cr : Nat) ∧ cr < 4294967296 ∧ FillW w wi w.heap.size (a.length + b.length) us ∧
        Hid (Kn.val us + Kn.pw (k + j) * cr = Kn.val vs + Kn.pw k * (x * Kn.val (b.take j)) ∧ ∀ t, k + j ≤ t → us.getD t 0 = vs.getD t 0)) (fun _ jv _ => b.length - (intOf jv).toNat)
      case atStart => exact ⟨0, 0, vs, Nat.zero_le _, rfl, rfl, by omega, F, Lib.hid ⟨by simp [Kn.val], fun _ _ => rfl⟩⟩
      case round =>
        obtain ⟨j, cr, us, hj, rfl, rfl, hcr, G, HJ⟩ := hrel
        by_cases hltj : j < b.length
        · obtain ⟨b2, o2, y, rfl, hb2, hc2, hy, hyl⟩ := (hb.below G.bel).word hltj
          have hcg := G.row.cell (k := k + j) (by have := G.len; omega)
          have hfg := G.row.frozen (k + j)
          obtain ⟨u, hu⟩ : ∃ u : Nat, Hid (u = us.getD (k + j) 0) := ⟨_, Lib.hid rfl⟩
          have hul : u < 4294967296 := by rw [hu.out]; exact G.wd.getD _
          rw [← hu.out] at hcg
          obtain ⟨xy, hxy⟩ : ∃ xy : Nat, Hid (xy = x * y) := ⟨_, Lib.hid rfl⟩
          have hxyl : xy ≤ 18446744065119617025 := by rw [hxy.out]; exact Nat.le_trans (Nat.mul_le_mul (show x ≤ 4294967295 by omega) (show y ≤ 4294967295 by omega)) (by decide)
          have hxyw : Hid (IntKind.u64.wrap ((x : Int) * (y : Int)) = (xy : Int)) := Lib.hid (by rw [← Int.natCast_mul, ← hxy.out]; exact wrap_nat (by omega))
          go_wp2_with fail
          have hs1 : xy + u ≤ 18446744069414584320 := by omega
          have hs2 : cr + (xy + u) ≤ 18446744073709551615 := by omega
          rw [hxyw.out, show (xy : Int) + (u : Int) = ((xy + u : Nat) : Int) by omega, wrap_nat (n := xy + u) (by omega), show (cr : Int) + ((xy + u : Nat) : Int) = ((cr + (xy + u) : Nat) : Int) by omega, wrap_nat (n := cr + (xy + u)) (by omega),
            show ((cr + (xy + u) : Nat) : Int) / 4294967296 = (((cr + (xy + u)) / 4294967296 : Nat) : Int) by omega, show ((cr + (xy + u) : Nat) : Int) % 4294967296 = (((cr + (xy + u)) % 4294967296 : Nat) : Int) by omega]
          have G2 := G.put (k + j) (x := (cr + (xy + u)) % 4294967296) (by omega)
          have hq : (cr + (xy + u)) / 4294967296 < 4294967296 := by omega
          have HJ2 : Hid (Kn.val (us.set (k + j) ((cr + (xy + u)) % 4294967296)) + Kn.pw (k + (j + 1)) * ((cr + (xy + u)) / 4294967296) = Kn.val vs + Kn.pw k * (x * Kn.val (b.take (j + 1))) ∧ ∀ t, k + (j + 1) ≤ t → (us.set (k + j) ((cr + (xy + u)) % 4294967296)).getD t 0 = vs.getD t 0) := Lib.hid (by
            have hl := G.len
            refine ⟨Kn.mul_step (by omega) HJ.out.1 (by rw [hxy.out, hu.out, hy.out]; omega), fun t ht => ?_⟩
            rw [Kn.getD_set _ _ _ _ (by omega), if_neg (by omega)]
            exact HJ.out.2 t (by omega))
          go_roundw
          case rel => exact ⟨j + 1, _, _, by omega, by go_num, rfl, hq, G2, HJ2⟩
          case measure => simp [intOf]; omega
        · obtain rfl : j = b.length := by omega
          have hcg := G.row.cell (k := k + b.length) (by have := G.len; omega)
          have hfg := G.row.frozen (k + b.length)
          have hw : (cr : Int) % 4294967296 = (cr : Int) := by omega
          have e3 : (((k : Nat) : Int) + ((b.length : Nat) : Int)).toNat = k + b.length := by omega
          have G2 := G.put (k + b.length) (x := cr) hcr
          have HI2 : Hid (Kn.val (us.set (k + b.length) cr) = Kn.val (a.take (k + 1)) * Kn.val b ∧ ∀ t, k + 1 + b.length ≤ t → (us.set (k + b.length) cr).getD t 0 = 0) := Lib.hid (by
            have hl := G.len
            refine ⟨Kn.mul_end hx.out HI.out.1 (by omega) (by rw [HJ.out.2 _ (Nat.le_refl _)]; exact HI.out.2 _ (Nat.le_refl _)) HJ.out.1, fun t ht => ?_⟩
            rw [Kn.getD_set _ _ _ _ (by omega), if_neg (by omega), HJ.out.2 t (by omega)]
            exact HI.out.2 t (by omega))
          go_wp2_with fail
          go_roundw
          case rel => exact ⟨k + 1, _, by omega, by go_num, G2, HI2⟩
          case measure => simp [intOf]; omega
    · obtain rfl : k = a.length := by omega
      have HV : Hid (Kn.val vs = Kn.val a * Kn.val b) := Lib.hid (by have := HI.out.1; rwa [List.take_of_length_le (Nat.le_refl _)] at this)
      have hvl := F.len
      have HVL := Lib.hid hvl
      have hT := trim_any (some ⟨w.heap.size, 0, none⟩) (a.length + b.length) vs _ _ F.sl (by omega)
      rw [hvl] at hT
      have HT := Lib.hid hT
      clear hvl hT
      go_wp2_with fail
      refine HT.out.mono ?_
      rintro e w' ⟨rfl, rfl⟩
      go_wp2_with fail
      go_ret
      exact F.mag HV.out
end Go.Proofs.YtkpomjdablopaaaGreatDoor
/- Walks: Mul. -/
namespace Go.Proofs.YtkpomjdablopaaaGreatDoor
open Go.RowKit
set_option linter.unusedVariables false

theorem dig_len_mul {xs ys : List Nat} (hx : Kn.Wd xs) (hy : Kn.Wd ys) : (Kn.dig (Kn.val xs * Kn.val ys)).length ≤ xs.length + ys.length := by
  refine Kn.dig_len_le ?_
  rw [Kn.pw_add]
  have h1 := Kn.val_lt hx
  have h2 := Kn.val_lt hy
  exact Nat.mul_lt_mul'' h1 h2
theorem iv_mul (p q : Bool) (xs ys : List Nat) : Kn.iv (p != q) (Kn.dig (Kn.val xs * Kn.val ys)) = Kn.iv p xs * Kn.iv q ys := by
  unfold Kn.iv; rw [Kn.val_dig]; cases p <;> cases q <;> simp [Int.natCast_mul, Int.neg_mul, Int.mul_neg]

set_option maxRecDepth 100000 in
set_option maxHeartbeats 1000000 in
theorem mul_any (nx : Bool) (A : Option Addr) (ca : Nat) (xs : List Nat) (ny : Bool) (B : Option Addr) (cb : Nat) (ys : List Nat) (w : World) (hx : Sl w w.heap.size A ca xs) (hy : Sl w w.heap.size B cb ys) (hlx : xs.length ≤ 99999999) (hly : ys.length ≤ 99999999) :
    Calls Tryz.prog 62 #[intV nx A xs.length ca, intV ny B ys.length cb] w (IntRes (Kn.iv nx xs * Kn.iv ny ys) w) := by
  obtain ⟨z, hz⟩ : ∃ z : Int, z = Kn.iv nx xs * Kn.iv ny ys := ⟨_, rfl⟩
  rw [← hz]
  have HZ := Lib.hid hz
  clear hz
  have hdx : (Kn.dig (Kn.val xs)).length ≤ 99999999 := Nat.le_trans (Kn.dig_len_val hx.wd) hlx
  have hdy : (Kn.dig (Kn.val ys)).length ≤ 99999999 := Nat.le_trans (Kn.dig_len_val hy.wd) hly
  have hvx := Lib.hid (Kn.val_dig (Kn.val xs))
  have hvy := Lib.hid (Kn.val_dig (Kn.val ys))
  have hdl := dig_len_mul hx.wd hy.wd
  unfold intV
  go_enter Tryz.func62, Tryz.ntmps62
  go_wp2_with fail
  have i := B3.new_ w nx A xs.length ca ny B ys.length cb 24
  revert i
  generalize ((w.alloc (.cells #[.bool nx, .slice A xs.length ca] 24)).alloc (.cells #[.bool ny, .slice B ys.length cb] 24)).alloc (.cells #[.bool false, .slice none 0 0] 24) = wx
  intro i
  replace i := i.drew
  have hX := (hx.below i.bel).more i.bel.size
  have hY := (hy.below i.bel).more i.bel.size
  go_region_held3 (fun w' => w'.cell? ⟨w.heap.size, 0, none⟩ = some (.bool nx) ∧ w'.cell? ⟨w.heap.size, 1, none⟩ = some (.slice A xs.length ca) ∧ w'.cell? ⟨w.heap.size + 1, 0, none⟩ = some (.bool ny) ∧ w'.cell? ⟨w.heap.size + 1, 1, none⟩ = some (.slice B ys.length cb))
    (first | exact ⟨i.t1.c0, i.t1.c1, i.t2.c0, i.t2.c1⟩ | exact ⟨((i.t1.far (by simp; omega) _).far (by simp; omega) _).c0, ((i.t1.far (by simp; omega) _).far (by simp; omega) _).c1, ((i.t2.far (by simp) _).far (by simp) _).c0, ((i.t2.far (by simp) _).far (by simp) _).c1⟩)
    (first
      | (go_at_call 65; (with_reducible refine (trim_any A ca xs _ _ hX (by omega)).mono ?_); rintro e w' ⟨rfl, rfl⟩)
      | (go_at_call 65; (with_reducible refine (trim_any B cb ys _ _ hY (by omega)).mono ?_); rintro e w' ⟨rfl, rfl⟩)
      | (go_at_call 108; refine (multiplyWords_any A ca _ B cb _ _ hX.trim hY.trim hdx hdy).mono ?_; rintro e w3 ⟨A3, c3, rfl, hS, hb3⟩; replace i := i.below hb3; rw [hvx.out, hvy.out] at hS ⊢)
      | (go_at_call 63; refine (signed_any (nx != ny) A3 c3 _ _ hS (by omega)).mono ?_; rintro e w4 ⟨A4, c4, rfl, hS4, hb4⟩; replace i := i.below hb4; have d20 := i.t3.c0; have d21 := i.t3.c1; have f20 := i.t3.fr 0; have f21 := i.t3.fr 1))
  all_goals
    rw [show Kn.iv (nx != ny) (Kn.dig (Kn.val xs * Kn.val ys)) = z by rw [HZ.out, iv_mul]] at hS4 ⊢
    have R := Lib.hid (two_set w4 (.bool (decide (z < 0))) (.slice A4 (Kn.dig z.natAbs).length c4) d20 d21)
    clear d20 d21 f20 f21
    go_wp2_with fail
    obtain ⟨r0, r1⟩ := R.out
    refine bodyPost_ret (v := .agg #[.bool (decide (z < 0)), .slice A4 (Kn.dig z.natAbs).length c4]) (by simp [results, Tryz.results62, go_sem, r0, r1]) rfl ?_
    exact i.fin hS4
end Go.Proofs.YtkpomjdablopaaaGreatDoor
/- Walks: Compare. -/
namespace Go.Proofs.YtkpomjdablopaaaGreatDoor
open Go.RowKit Go.Sort
set_option linter.unusedVariables false

theorem cell_regrown {w : World} {p : Addr} {v : Value} (h : w.cell? p = some v) (d : Nat) (os : Array Obj) : (grow (redrawn w d) os).cell? p = some v :=
  ((below_regrown w d os).cell (p := p) (World.block_lt_of_cell? w p h)).trans h
theorem Sl.regrown {w : World} {B : Nat} {A : Option Addr} {c : Nat} {ws : List Nat} (h : Sl w B A c ws) (hB : B ≤ w.heap.size) (d : Nat) (os : Array Obj) : Sl (grow (redrawn w d) os) (grow (redrawn w d) os).heap.size A c ws :=
  (h.below ((below_regrown w d os).mono hB)).more (Nat.le_trans hB (below_regrown w d os).size)

/-- a call's world with two arguments' boxes -/
structure P2 (w wr : World) (nx : Bool) (A : Option Addr) (n ca : Nat) (ny : Bool) (B : Option Addr) (m cb : Nat) : Prop where
  t1 : Two wr w.heap.size (.bool nx) (.slice A n ca)
  t2 : Two wr (w.heap.size + 1) (.bool ny) (.slice B m cb)
  bel : Below w.heap.size w wr
section
variable {w wr wx : World} {nx ny : Bool} {A B : Option Addr} {n m ca cb : Nat}
theorem P2.below (h : P2 w wr nx A n ca ny B m cb) (hb : Below wr.heap.size wr wx) : P2 w wx nx A n ca ny B m cb := ⟨h.t1.below hb h.t1.lt, h.t2.below hb h.t2.lt, h.bel.trans (hb.mono h.bel.size)⟩
theorem P2.drewN (h : P2 w wr nx A n ca ny B m cb) (q : Nat) : P2 w (wr.drewN q) nx A n ca ny B m cb := ⟨h.t1.drewN q, h.t2.drewN q, bDrew h.bel q⟩
theorem P2.new_ (w : World) (nx : Bool) (A : Option Addr) (n ca : Nat) (ny : Bool) (B : Option Addr) (m cb : Nat) (T : TypeId) :
    P2 w ((w.alloc (.cells #[.bool nx, .slice A n ca] T)).alloc (.cells #[.bool ny, .slice B m cb] T)) nx A n ca ny B m cb :=
  ⟨(Two.new_ _ _ _ _).alloc _, by simpa using Two.new_ (w.alloc (.cells #[.bool nx, .slice A n ca] T)) (.bool ny) (.slice B m cb) T, ((Below.refl _ _).alloc (Nat.le_refl _) _).alloc (by simp) _⟩
end

theorem sgn (a : Int) : (a < 0 ∧ a.sign = -1) ∨ (a = 0 ∧ a.sign = 0) ∨ (0 < a ∧ a.sign = 1) := by
  rcases Int.lt_trichotomy a 0 with h | h | h
  · exact Or.inl ⟨h, Int.sign_eq_neg_one_of_neg h⟩
  · exact Or.inr (Or.inl ⟨h, by rw [h]; rfl⟩)
  · exact Or.inr (Or.inr ⟨h, Int.sign_eq_one_of_pos h⟩)
theorem cmp_signs (a b : Int) (h : a.sign ≠ b.sign) : cmpI a.sign b.sign = cmpI a b := by
  rcases sgn a with ⟨h1, h2⟩ | ⟨h1, h2⟩ | ⟨h1, h2⟩ <;> rcases sgn b with ⟨h3, h4⟩ | ⟨h3, h4⟩ | ⟨h3, h4⟩ <;> rw [h2, h4] at h ⊢ <;> unfold cmpI <;> (repeat' split) <;> omega
/-- the order of two integers with one sign -/
theorem cmp_sign (nx ny : Bool) (xs ys : List Nat) (h : (Kn.iv nx xs).sign = (Kn.iv ny ys).sign) : (Kn.iv nx xs).sign * Kn.cmp (Kn.val xs) (Kn.val ys) = cmpI (Kn.iv nx xs) (Kn.iv ny ys) := by
  have hc := cmpI_nat (Kn.val xs) (Kn.val ys)
  rw [← hc]
  have ha : Kn.iv nx xs = Kn.val xs ∨ Kn.iv nx xs = -(Kn.val xs : Int) := by unfold Kn.iv; cases nx <;> simp
  have hb : Kn.iv ny ys = Kn.val ys ∨ Kn.iv ny ys = -(Kn.val ys : Int) := by unfold Kn.iv; cases ny <;> simp
  revert h ha hb
  generalize Kn.iv nx xs = a
  generalize Kn.iv ny ys = b
  generalize Kn.val xs = x
  generalize Kn.val ys = y
  intro h ha hb
  rcases sgn a with ⟨h1, h2⟩ | ⟨h1, h2⟩ | ⟨h1, h2⟩ <;> rcases sgn b with ⟨h3, h4⟩ | ⟨h3, h4⟩ | ⟨h3, h4⟩ <;> rw [h2, h4] at h <;> rw [h2] <;> unfold cmpI <;> (repeat' split) <;> omega

set_option maxRecDepth 100000 in
set_option maxHeartbeats 1000000 in
theorem bcompare_any (nx : Bool) (A : Option Addr) (ca : Nat) (xs : List Nat) (ny : Bool) (B : Option Addr) (cb : Nat) (ys : List Nat) (w : World) (hx : Sl w w.heap.size A ca xs) (hy : Sl w w.heap.size B cb ys) (hlx : xs.length ≤ 99999999) (hly : ys.length ≤ 99999999) :
    Calls Tryz.prog 78 #[intV nx A xs.length ca, intV ny B ys.length cb] w fun e w' => e = .returned (.int .i64 (cmpI (Kn.iv nx xs) (Kn.iv ny ys))) ∧ Below w.heap.size w w' := by
  have hdx : (Kn.dig (Kn.val xs)).length ≤ 99999999 := Nat.le_trans (Kn.dig_len_val hx.wd) hlx
  have hdy : (Kn.dig (Kn.val ys)).length ≤ 99999999 := Nat.le_trans (Kn.dig_len_val hy.wd) hly
  obtain ⟨sx, hsx⟩ : ∃ s, Hid ((Kn.iv nx xs).sign = s) := ⟨_, Lib.hid rfl⟩
  obtain ⟨sy, hsy⟩ : ∃ s, Hid ((Kn.iv ny ys).sign = s) := ⟨_, Lib.hid rfl⟩
  obtain ⟨R, hR⟩ : ∃ R, Hid (cmpI (Kn.iv nx xs) (Kn.iv ny ys) = R) := ⟨_, Lib.hid rfl⟩
  rw [hR.out]
  unfold intV
  go_enter Tryz.func78, Tryz.ntmps78
  go_wp2_with fail
  have i := P2.new_ w nx A xs.length ca ny B ys.length cb 24
  revert i
  generalize (w.alloc (.cells #[.bool nx, .slice A xs.length ca] 24)).alloc (.cells #[.bool ny, .slice B ys.length cb] 24) = w1
  intro i
  have k10 := cell_regrown i.t1.c0
  have k11 := cell_regrown i.t1.c1
  have k20 := cell_regrown i.t2.c0
  have k21 := cell_regrown i.t2.c1
  have hX := (hx.below i.bel).more i.bel.size
  have hY := (hy.below i.bel).more i.bel.size
  have q1 : ∀ d os, Calls Tryz.prog 51 #[.agg #[.bool nx, .slice A xs.length ca]] (grow (redrawn w1 d) os) fun e w'' => e = .returned (.int .i64 sx) ∧ ∃ p : Regrown, w'' = grow (redrawn w1 p.d) p.os :=
    fun d os => Calls.regrown_of (by rw [← hsx.out]; exact sign_any nx A ca xs _ (hX.regrown (Nat.le_refl _) d os) (by omega))
  have q2 : ∀ d os, Calls Tryz.prog 51 #[.agg #[.bool ny, .slice B ys.length cb]] (grow (redrawn w1 d) os) fun e w'' => e = .returned (.int .i64 sy) ∧ ∃ p : Regrown, w'' = grow (redrawn w1 p.d) p.os :=
    fun d os => Calls.regrown_of (by rw [← hsy.out]; exact sign_any ny B cb ys _ (hY.regrown (Nat.le_refl _) d os) (by omega))
  have Q1 := Lib.hid q1
  have Q2 := Lib.hid q2
  clear q1 q2
  refine wp_region_quiet_below (by kernel_rfl) (by kernel_rfl) ?_
  repeat (quiet_step ((go_at_call 51; first | (with_reducible exact Q1.out _ _) | (with_reducible exact Q2.out _ _))))
  refine wpQuiet_nil ?_
  intro _ hw'
  obtain ⟨⟨dq, osq⟩, hw''⟩ := hw'
  subst hw''
  replace i := i.below (below_regrown w1 dq osq)
  clear k10 k11 k20 k21 Q1 Q2 hX hY
  revert i
  generalize grow (redrawn w1 dq) osq = w2
  intro i
  by_cases hs : sx = sy
  · have h1 : (sx != sy) = false := by simp [hs]
    have HC : Hid (sx * Kn.cmp (Kn.val xs) (Kn.val ys) = R) := Lib.hid (by rw [← hsx.out, ← hR.out]; exact cmp_sign _ _ _ _ (by rw [hsx.out, hsy.out]; exact hs))
    have hR1 : -1 ≤ R ∧ R ≤ 1 := by rw [← hR.out]; unfold cmpI; split <;> (try split) <;> omega
    obtain ⟨cc, hcc⟩ : ∃ cc, Hid (Kn.cmp (Kn.val xs) (Kn.val ys) = cc) := ⟨_, Lib.hid rfl⟩
    have hCW : ∀ W : World, Sl W w2.heap.size A ca (Kn.dig (Kn.val xs)) → Sl W w2.heap.size B cb (Kn.dig (Kn.val ys)) → Calls Tryz.prog 116 #[.slice A (Kn.dig (Kn.val xs)).length ca, .slice B (Kn.dig (Kn.val ys)).length cb] W fun e w' => e = .returned (.int .i64 cc) ∧ ∃ q, w' = W.drewN q := fun W h1 h2 => by
      rw [← hcc.out]; exact compareWords_any A ca _ B cb _ _ _ h1 h2 (by omega) (by omega)
    have HCW := Lib.hid hCW
    clear hCW
    have HW : Hid (wrap64 (sx * cc) = R) := Lib.hid (by rw [← hcc.out, HC.out]; unfold wrap64; omega)
    have HS := Lib.hid hs
    clear hs hR1
    have c11 := i.t1.c1
    have c21 := i.t2.c1
    have hX := (hx.below i.bel).more i.bel.size
    have hY := (hy.below i.bel).more i.bel.size
    go_wp2_with fail
    go_quiet (first
      | (go_at_call 65; with_reducible exact quiet_of_eq (trim_any A ca xs _ _ (hX.drewN _) (by omega)))
      | (go_at_call 65; with_reducible exact quiet_of_eq (trim_any B cb ys _ _ (hY.drewN _) (by omega)))
      | (go_at_call 116; with_reducible exact quiet_drew (HCW.out _ (hX.drewN _).trim (hY.drewN _).trim)))
    go_wp2_with fail
    go_ret
    exact ⟨ret_int HW.out, bDrew i.bel _⟩
  · have h1 : (sx != sy) = true := by simp [hs]
    have HC : Hid (cmpI sx sy = R) := Lib.hid (by rw [← hsx.out, ← hsy.out, ← hR.out]; exact cmp_signs _ _ (by rw [hsx.out, hsy.out]; exact hs))
    have HS := Lib.hid hs
    clear hs
    go_wp2_with (go_at_call 115; refine (cmp_int _ _ _).mono ?_; rintro e w' ⟨rfl, rfl⟩)
    go_ret
    exact ⟨ret_int HC.out, i.bel⟩
end Go.Proofs.YtkpomjdablopaaaGreatDoor
/- Walks: the reference's trim, made. -/
namespace Go.Proofs.YtkpomjdablopaaaGreatDoor
open Go.RowKit
set_option linter.unusedVariables false

set_option maxRecDepth 100000 in
set_option maxHeartbeats 1000000 in
theorem rtrim_any (A : Option Addr) (c : Nat) (ws : List Nat) (w : World) (h : Sl w w.heap.size A c ws) (hl : ws.length ≤ 1000000000) :
    Calls Tryz.prog 66 #[.slice A ws.length c] w (MagRes (Kn.val ws) w) := by
  have hcap := h.cap
  obtain ⟨i0, hi, hz0, hz1, hz2⟩ := info_parts infoU32
  have hown : (w.alloc (.cells #[] 88)).ownsRow w.heap.size 88 1 (.slice (some ⟨w.heap.size, 0, none⟩) 0 0) 0 [] := World.ownsRow_made (e := 88) (size := 1) (base := w.heap.size) w #[] 0 (Nat.le_refl _) (by unfold maxLen; omega) rfl
  obtain ⟨m, hm⟩ : ∃ m : Nat, Hid (m = (Kn.dig (Kn.val ws)).length) := ⟨_, Lib.hid rfl⟩
  cases A with
  | none =>
    obtain rfl : c = 0 := h.nil0 rfl
    have hw0 : ws = [] := List.eq_nil_of_length_eq_zero (by omega)
    subst hw0
    go_enter Tryz.func66, Tryz.ntmps66
    go_wp2_with fail
    go_loop [3] (fun v => v = .int .i64 0) (fun v => 0)
    case atStart => exact rfl
    case round =>
      subst hrel
      go_wp2_with (at_builtin; refine wpList_append_own_none rfl _ _ 22 rfl w.heap.size 88 i0 1 Tryz.underlying22 hi _ _ _ rfl hown rfl ?_)
      go_ret
      refine ⟨some ⟨w.heap.size, 0, none⟩, 0, ?_, ?_, al1 _ _⟩
      · rw [Kn.val_nil, Kn.dig_zero]; rfl
      · rw [Kn.val_nil, Kn.dig_zero]; exact ⟨Nums.nil _ _ _ _, Kn.Wd.nil, Nat.zero_le _, fun e => by cases e⟩
  | some ad =>
    have hnews : Hid (∀ k, k ≤ ws.length → ∀ j u, (u32s (ws.take k))[j]? = some u → (w.alloc (.cells #[] 88)).cell? (ad.add j) = some u) := Lib.hid (fun k hk j u hu => by
      have hjk : j < k := by
        have := (List.getElem?_eq_some_iff.1 hu).1
        rw [u32s_len, List.length_take] at this; omega
      obtain ⟨b, off, e, hb, hc⟩ := h.nums.row.cells (by rw [List.length_map]; omega)
      injection e with e
      subst e
      rw [Go.WideShapes.add_plain, World.cell?_alloc_lt _ _ _ hb]
      unfold u32s at hu
      rw [List.map_take, List.getElem?_take_of_lt hjk] at hu
      exact hc j u hu)
    go_enter Tryz.func66, Tryz.ntmps66
    go_wp2_with fail
    go_loop [3] (fun v => ∃ k : Nat, k ≤ ws.length ∧ v = .int .i64 k ∧ Hid (Kn.val (ws.take k) = Kn.val ws)) (fun v => (intOf v).toNat)
    case atStart => exact ⟨ws.length, Nat.le_refl _, rfl, Lib.hid (by rw [List.take_length])⟩
    case round =>
      obtain ⟨k, hk, rfl, HV⟩ := hrel
      have fin : (k = 0 ∨ ws.getD (k - 1) 0 ≠ 0) → Hid (ws.take k = Kn.dig (Kn.val ws) ∧ k = (Kn.dig (Kn.val ws)).length) := fun he => Lib.hid (Kn.val_take_of_dig ws h.wd hk HV.out he)
      have FIN := Lib.hid fin
      clear fin
      have hlm := Lib.hid (show (u32s (ws.take k)).length = k * 1 by rw [u32s_len, List.length_take, Nat.mul_one]; omega)
      by_cases hk0 : k = 0
      · have HE := FIN.out (Or.inl hk0)
        subst hk0
        go_wp2_with fail
        go_ret
        refine ⟨some ⟨w.heap.size, 0, none⟩, 0, ?_, ?_, al1 _ _⟩
        · rw [← HE.out.2]; rfl
        · rw [← HE.out.1]; exact ⟨Nums.nil _ _ _ _, Kn.Wd.nil, Nat.zero_le _, fun e => by cases e⟩
      · obtain ⟨b, off, x, e, hb, hc, hx, hx2⟩ := h.word (k := k - 1) (by omega)
        injection e with e
        subst e
        have e1 : ((k : Int) - 1).toNat = k - 1 := by omega
        have e2 : (0 : Int) ≤ (k : Int) - 1 := by omega
        have hk1 : 0 < k := by omega
        clear hk0
        by_cases hx0 : x = 0
        · subst hx0
          have hv : Hid (Kn.val (ws.take (k - 1)) = Kn.val ws) := Lib.hid (by
            have h1 := Kn.val_take_step ws (k - 1)
            rw [← hx.out, Nat.mul_zero, Nat.sub_add_cancel hk1, HV.out] at h1
            omega)
          go_wp2_with fail
          go_round
          case rel => exact ⟨k - 1, by omega, by go_num, hv⟩
          case measure => simp [intOf]; omega
        · have hx1 : ((x : Int) == 0) = false := by simp; omega
          have HE := FIN.out (Or.inr (by rw [← hx.out]; exact hx0))
          clear hx0
          go_wp2_with (at_builtin; refine wpList_append_own _ rfl _ _ 22 rfl w.heap.size 88 i0 (.int .u32 0) 1 4 Tryz.underlying22 hi hz0 hz1 hz2 rfl (by decide) _ _ _ rfl hown ⟨b, off, none⟩ k c (u32s (ws.take k)) rfl hlm.out (hnews.out k hk) (u32s_one _) ?c3 ?c4 ?c5 ?_)
          case c3 => unfold maxLen; omega
          case c4 => omega
          intro v' w3 hown' hgrow _
          have b3 : Below w.heap.size w w3 := (al1 w (.cells #[] 88)).grown hgrow (by simp) (fun k e => by simp [Value.ownBlock] at e; omega)
          replace hown' : w3.ownsRow w.heap.size 88 1 v' k (u32s (ws.take k)) := by simpa using hown'
          obtain ⟨A', c', rfl, hc'⟩ := own_slice hown'
          have hS := Sl.of_own hown' (h.wd.take k) hc' (by rw [List.length_take]; omega)
          clear hown' hgrow hown
          go_wp2_with fail
          go_ret
          refine ⟨A', c', ?_, ?_, b3⟩
          · rw [← HE.out.2]; rfl
          · rw [← HE.out.1]; exact hS

set_option maxRecDepth 100000 in
set_option maxHeartbeats 400000 in
theorem made_any (neg : Bool) (A : Option Addr) (c : Nat) (ws : List Nat) (w : World) (h : Sl w w.heap.size A c ws) (hl : ws.length ≤ 1000000000) :
    Calls Tryz.prog 76 #[.bool neg, .slice A ws.length c] w (IntRes (Kn.iv neg ws) w) := by
  obtain ⟨z, hz⟩ : ∃ z : Int, z = Kn.iv neg ws := ⟨_, rfl⟩
  rw [← hz]
  have HZ := Lib.hid hz
  clear hz
  obtain ⟨N, hN⟩ : ∃ N : Nat, Hid (N = Kn.val ws) := ⟨_, Lib.hid rfl⟩
  have hz2 : Hid (decide (z < 0) = (neg && decide (0 < N))) := Lib.hid (by rw [HZ.out, Kn.iv_neg, hN.out])
  have hz3 : Hid (z.natAbs = N) := Lib.hid (by rw [HZ.out, Kn.iv_natAbs, hN.out])
  have hT : ∀ w : World, Sl w w.heap.size A c ws → Calls Tryz.prog 66 #[.slice A ws.length c] w (MagRes N w) := fun w h => by rw [hN.out]; exact rtrim_any A c ws w h hl
  have HT := Lib.hid hT
  clear hT
  go_enter Tryz.func76, Tryz.ntmps76
  go_wp2_with fail
  have hX := h.alloc (Nat.le_refl _) (.cells #[.bool false, .slice none 0 0] 24)
  refine (HT.out _ (hX.more (by simp))).mono ?_
  rintro e w2 ⟨A2, c2, rfl, hS, hb⟩
  have t : Two w2 w.heap.size (.bool false) (.slice none 0 0) := (Two.new_ _ _ _ _).below hb (by simp)
  have hB : Below w.heap.size w w2 := ((Below.refl _ _).alloc (Nat.le_refl _) _).trans (hb.mono (by simp))
  have d0 := t.c0
  have d1 := t.c1
  have f0 := t.fr 0
  have f1 := t.fr 1
  have hlen := Lib.hid (@Kn.dig_len_pos N)
  have R := Lib.hid (two_set w2 (.bool (decide (z < 0))) (.slice A2 (Kn.dig z.natAbs).length c2) d0 d1)
  have hfin : IntRes z w (.returned (.agg #[.bool (decide (z < 0)), .slice A2 (Kn.dig z.natAbs).length c2])) ((w2.setCell ⟨w.heap.size, 0, none⟩ (.bool (decide (z < 0)))).setCell ⟨w.heap.size, 1, none⟩ (.slice A2 (Kn.dig z.natAbs).length c2)) := by
    refine ⟨A2, c2, rfl, ?_, ?_⟩
    · rw [hz3.out]
      exact (hS.put t _ _).more (by simp [World.setCell])
    · exact (hB.setCell (p := ⟨w.heap.size, 0, none⟩) (Nat.le_refl _) _).setCell (p := ⟨w.heap.size, 1, none⟩) (Nat.le_refl _) _
  have FIN := Lib.hid hfin
  clear hfin
  rw [← hz3.out] at hS ⊢
  by_cases h0 : 0 < N
  · have hp : 0 < (Kn.dig z.natAbs).length := by rw [hz3.out]; exact hlen.out.2 h0
    have hzn : Hid (decide (z < 0) = neg) := Lib.hid (by rw [hz2.out, decide_eq_true h0, Bool.and_true])
    rw [hzn.out] at R FIN
    cases neg
    · go_wp2_with fail
      obtain ⟨r0, r1⟩ := R.out
      refine bodyPost_ret (v := .agg #[.bool false, .slice A2 (Kn.dig z.natAbs).length c2]) (by simp [results, Tryz.results76, go_sem, r0, r1]) rfl ?_
      exact FIN.out
    · go_wp2_with fail
      obtain ⟨r0, r1⟩ := R.out
      refine bodyPost_ret (v := .agg #[.bool true, .slice A2 (Kn.dig z.natAbs).length c2]) (by simp [results, Tryz.results76, go_sem, r0, r1]) rfl ?_
      exact FIN.out
  · have hp : ¬ 0 < (Kn.dig z.natAbs).length := by rw [hz3.out]; exact fun h => h0 (hlen.out.1 h)
    have hp2 : (Kn.dig z.natAbs).length ≤ 0 := by omega
    have hzn : Hid (decide (z < 0) = false) := Lib.hid (by rw [hz2.out, decide_eq_false h0, Bool.and_false])
    rw [hzn.out] at R FIN
    cases neg
    all_goals
      go_wp2_with fail
      obtain ⟨r0, r1⟩ := R.out
      refine bodyPost_ret (v := .agg #[.bool false, .slice A2 (Kn.dig z.natAbs).length c2]) (by simp [results, Tryz.results76, go_sem, r0, r1]) rfl ?_
      exact FIN.out
end Go.Proofs.YtkpomjdablopaaaGreatDoor
/- Walks: the reference's Clean, Neg, Abs, Sign, Valid, Equal; the law's short and same. -/
namespace Go.Proofs.YtkpomjdablopaaaGreatDoor
open Go.RowKit
set_option linter.unusedVariables false

set_option maxRecDepth 100000 in
set_option maxHeartbeats 400000 in
theorem rclean_any (neg : Bool) (A : Option Addr) (c : Nat) (ws : List Nat) (w : World) (h : Sl w w.heap.size A c ws) (hl : ws.length ≤ 1000000000) :
    Calls Tryz.prog 70 #[intV neg A ws.length c] w (IntRes (Kn.iv neg ws) w) := by
  obtain ⟨z, hz⟩ : ∃ z : Int, z = Kn.iv neg ws := ⟨_, rfl⟩
  rw [← hz]
  have HZ := Lib.hid hz
  clear hz
  have HM : Hid (∀ w : World, Sl w w.heap.size A c ws → Calls Tryz.prog 76 #[.bool neg, .slice A ws.length c] w (IntRes z w)) := Lib.hid (fun w h => by rw [HZ.out]; exact made_any neg A c ws w h hl)
  unfold intV
  go_enter Tryz.func70, Tryz.ntmps70
  go_wp2_with fail
  have i := B2.new_ w neg A ws.length c 24 24
  revert i
  generalize (w.alloc (.cells #[.bool neg, .slice A ws.length c] 24)).alloc (.cells #[.bool false, .slice none 0 0] 24) = wx
  intro i
  have c10 := i.t1.c0
  have c11 := i.t1.c1
  go_wp2_with fail
  refine (HM.out _ ((h.below i.bel).more i.bel.size)).mono ?_
  rintro e w3 ⟨A3, c3, rfl, hS3, hb3⟩
  replace i := i.below hb3
  clear c10 c11
  have d20 := i.t2.c0
  have d21 := i.t2.c1
  have f20 := i.t2.fr 0
  have f21 := i.t2.fr 1
  have R := Lib.hid (two_set w3 (.bool (decide (z < 0))) (.slice A3 (Kn.dig z.natAbs).length c3) d20 d21)
  go_wp2_with fail
  obtain ⟨r0, r1⟩ := R.out
  refine bodyPost_ret (v := .agg #[.bool (decide (z < 0)), .slice A3 (Kn.dig z.natAbs).length c3]) (by simp [results, Tryz.results70, go_sem, r0, r1]) rfl ?_
  exact i.fin hS3

set_option maxRecDepth 100000 in
set_option maxHeartbeats 400000 in
theorem rneg_any (neg : Bool) (A : Option Addr) (c : Nat) (ws : List Nat) (w : World) (h : Sl w w.heap.size A c ws) (hl : ws.length ≤ 1000000000) :
    Calls Tryz.prog 37 #[intV neg A ws.length c] w (IntRes (Kn.iv (!neg) ws) w) := by
  obtain ⟨z, hz⟩ : ∃ z : Int, z = Kn.iv (!neg) ws := ⟨_, rfl⟩
  rw [← hz]
  have HZ := Lib.hid hz
  clear hz
  have HM : Hid (∀ w : World, Sl w w.heap.size A c ws → Calls Tryz.prog 76 #[.bool (!neg), .slice A ws.length c] w (IntRes z w)) := Lib.hid (fun w h => by rw [HZ.out]; exact made_any (!neg) A c ws w h hl)
  unfold intV
  go_enter Tryz.func37, Tryz.ntmps37
  go_wp2_with fail
  have i := B2.new_ w neg A ws.length c 24 24
  revert i
  generalize (w.alloc (.cells #[.bool neg, .slice A ws.length c] 24)).alloc (.cells #[.bool false, .slice none 0 0] 24) = wx
  intro i
  have c10 := i.t1.c0
  have c11 := i.t1.c1
  go_wp2_with fail
  refine (HM.out _ ((h.below i.bel).more i.bel.size)).mono ?_
  rintro e w3 ⟨A3, c3, rfl, hS3, hb3⟩
  replace i := i.below hb3
  clear c10 c11
  have d20 := i.t2.c0
  have d21 := i.t2.c1
  have f20 := i.t2.fr 0
  have f21 := i.t2.fr 1
  have R := Lib.hid (two_set w3 (.bool (decide (z < 0))) (.slice A3 (Kn.dig z.natAbs).length c3) d20 d21)
  go_wp2_with fail
  obtain ⟨r0, r1⟩ := R.out
  refine bodyPost_ret (v := .agg #[.bool (decide (z < 0)), .slice A3 (Kn.dig z.natAbs).length c3]) (by simp [results, Tryz.results37, go_sem, r0, r1]) rfl ?_
  exact i.fin hS3

end Go.Proofs.YtkpomjdablopaaaGreatDoor
/- Sums, differences and products by appending: plain mathematics, of no program. -/
namespace Go.Proofs.YtkpomjdablopaaaGreatDoor.Kn
theorem add_app {a b out : List Nat} {k cr t : Nat} (hl : out.length = k) (hi : val out + pw k * cr = val (a.take k) + val (b.take k)) (ht : t = cr + a.getD k 0 + b.getD k 0) :
    val (out ++ [t % 4294967296]) + pw (k + 1) * (t / 4294967296) = val (a.take (k + 1)) + val (b.take (k + 1)) := by
  rw [val_append, val_one, hl, val_take_step a, val_take_step b]
  have h := pw_divmod k t
  have e : pw k * t = pw k * cr + pw k * a.getD k 0 + pw k * b.getD k 0 := by rw [ht, Nat.mul_add, Nat.mul_add]
  omega
theorem sub_app {a b out : List Nat} {k bo r bo' : Nat} (hl : out.length = k) (hi : val out + val (b.take k) = val (a.take k) + pw k * bo) (hr : r + b.getD k 0 + bo = a.getD k 0 + 4294967296 * bo') :
    val (out ++ [r]) + val (b.take (k + 1)) = val (a.take (k + 1)) + pw (k + 1) * bo' := by
  rw [val_append, val_one, hl, val_take_step a, val_take_step b, pw_succ]
  have e := congrArg (pw k * ·) hr
  simp only [Nat.mul_add] at e
  rw [show pw k * (4294967296 * bo') = 4294967296 * pw k * bo' by rw [← Nat.mul_assoc, Nat.mul_comm (pw k) 4294967296]] at e
  omega
theorem sub_end {a b out : List Nat} {bo : Nat} (hw : Wd out) (hl : out.length = a.length) (hb : b.length ≤ a.length) (hi : val out + val (b.take a.length) = val (a.take a.length) + pw a.length * bo) (hle : val b ≤ val a) (hbo : bo ≤ 1) : val out = val a - val b := by
  rw [List.take_of_length_le (Nat.le_refl _), List.take_of_length_le hb] at hi
  have h := val_lt hw
  rw [hl] at h
  rcases Nat.eq_zero_or_pos bo with h0 | h0
  · subst h0; omega
  · have : bo = 1 := by omega
    subst this
    omega
theorem times_app {a out : List Nat} {k cr t d : Nat} (hl : out.length = k) (hi : val out + pw k * cr = val (a.take k) * d) (ht : t = a.getD k 0 * d + cr) :
    val (out ++ [t % 4294967296]) + pw (k + 1) * (t / 4294967296) = val (a.take (k + 1)) * d := by
  rw [val_append, val_one, hl, val_take_step a, Nat.add_mul, Nat.mul_assoc]
  have h := pw_divmod k t
  have e : pw k * t = pw k * (a.getD k 0 * d) + pw k * cr := by rw [ht, Nat.mul_add]
  omega
theorem app_end {out : List Nat} {k cr : Nat} (hl : out.length = k) : val (out ++ [cr]) = val out + pw k * cr := by rw [val_append, val_one, hl]
end Go.Proofs.YtkpomjdablopaaaGreatDoor.Kn
