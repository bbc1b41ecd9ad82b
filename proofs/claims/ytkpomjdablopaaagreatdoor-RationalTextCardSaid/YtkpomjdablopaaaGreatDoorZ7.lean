/- My texts, packed: D4, D5. -/
import Derived.Test.YtkpomjdablopaaaGreatDoorZ6
import Derived.Test.YtkpomjdablopaaaGreatDoorZ3
import Derived.Lib.ItoaNum
/- Walks: shiftUp, shiftDown, divideByWord. -/
namespace Go.Proofs.YtkpomjdablopaaaGreatDoor
open Go.RowKit
set_option linter.unusedVariables false

/-- a new row, all of it -/
def RowRes (N n : Nat) (w : World) (e : Ending) (w' : World) : Prop := ∃ g vs, e = .returned (.slice (some ⟨g, 0, none⟩) n n) ∧ FillW w w' g n vs ∧ Kn.val vs = N

theorem nat_pow_cast (s : Nat) : ((2 : Int) ^ s) = ((2 ^ s : Nat) : Int) := by rw [Int.natCast_pow]; rfl

set_option maxRecDepth 100000 in
set_option maxHeartbeats 2000000 in
theorem shiftUp_any (A : Option Addr) (ca : Nat) (a : List Nat) (s : Nat) (w : World) (ha : Sl w w.heap.size A ca a) (hla : a.length ≤ 99999999) (hs : s ≤ 31) :
    Calls Tryz.prog 170 #[.slice A a.length ca, .int .i64 (s : Int)] w (RowRes (Kn.val a * 2 ^ s) (a.length + 1) w) := by
  have hmk := makeU32 (a.length + 1) (by omega) (((a.length : Nat) : Int) + 1) (by omega)
  have e1 : (((a.length : Nat) : Int) + 1).toNat = a.length + 1 := by omega
  go_enter Tryz.func170, Tryz.ntmps170
  go_wp2_with fail
  have F0 := FillW.new_ w (a.length + 1)
  revert F0
  generalize w.alloc (.cells (ncells .u32 (List.replicate (a.length + 1) 0)) 88) = w1
  intro F0
  clear hmk
  go_loopw [6, 15] (fun cv iv wr => ∃ k cr vs, k ≤ a.length ∧ iv = .int .i64 (k : Nat) ∧ cv = .int .u64 (cr : Nat) ∧ Hid (cr < 2 ^ s) ∧ FillW w wr w.heap.size (a.length + 1) vs ∧ Hid (Kn.val (vs.take k) + Kn.pw k * cr = Kn.val (a.take k) * 2 ^ s)) (fun _ iv _ => a.length - (intOf iv).toNat)
  case atStart => exact ⟨0, 0, _, Nat.zero_le _, rfl, rfl, Lib.hid (Nat.pow_pos (by decide)), F0, Lib.hid (by simp [Kn.val])⟩
  case round =>
    obtain ⟨k, cr, vs, hk, rfl, rfl, hcr, F, HI⟩ := hrel
    have hcrl : cr < 4294967296 := by have h1 := hcr.out; have h2 : 2 ^ s ≤ 2 ^ 31 := Nat.pow_le_pow_right (by decide) hs; omega
    by_cases hlt : k < a.length
    · obtain ⟨b1, o1, x, rfl, hb1, hc1, hx, hxl⟩ := (ha.below F.bel).word hlt
      have hcg := F.row.cell (k := k) (by have := F.len; omega)
      have hfg := F.row.frozen k
      obtain ⟨y, hy⟩ : ∃ y : Nat, Hid (y = x * 2 ^ s) := ⟨_, Lib.hid rfl⟩
      have U := Lib.hid (Kn.up_word hs hcr.out hxl)
      have hyl : cr + y < 9223372036854775808 := by rw [hy.out]; exact U.out.2.1
      have e2 : Hid (IntKind.u64.wrap ((x : Int) * 2 ^ s) = (y : Int)) := Lib.hid (by rw [nat_pow_cast, ← Int.natCast_mul, ← hy.out]; exact wrap_nat (by omega))
      have e3 : Hid (bits BinOp.or IntKind.u64 (cr : Int) (y : Int) = ((cr + y : Nat) : Int)) := Lib.hid (by rw [or_any64 _ _ (by omega) (by omega), hy.out, U.out.1])
      have hq : Hid ((cr + y) / 4294967296 < 2 ^ s) := Lib.hid (by rw [hy.out]; exact U.out.2.2)
      have HI2 := Lib.hid (Kn.up_step (by have := F.len; omega) HI.out (show cr + y = _ by rw [hy.out, hx.out]))
      have F2 := F.put k (x := (cr + y) % 4294967296) (by omega)
      go_wp2_with fail
      rw [e2.out, e3.out, show ((cr + y : Nat) : Int) % 4294967296 = (((cr + y) % 4294967296 : Nat) : Int) by omega, show ((cr + y : Nat) : Int) / 4294967296 = (((cr + y) / 4294967296 : Nat) : Int) by omega]
      go_roundw
      case rel => exact ⟨k + 1, _, _, by omega, by go_num, rfl, hq, F2, HI2⟩
      case measure => simp [intOf]; omega
    · obtain rfl : k = a.length := by omega
      have hcg := F.row.cell (k := a.length) (by have := F.len; omega)
      have hfg := F.row.frozen a.length
      have F2 := F.put a.length (x := cr) hcrl
      have em : (cr : Int) % 4294967296 = (cr : Int) := by omega
      have HV : Hid (Kn.val (vs.set a.length cr) = Kn.val a * 2 ^ s) := Lib.hid (by
        have hl := F.len
        have h1 := Kn.val_set_take vs cr (k := a.length) (by omega)
        have h2 := HI.out
        rw [List.take_of_length_le (by rw [List.length_set]; omega)] at h1
        rw [List.take_of_length_le (Nat.le_refl a.length)] at h2
        omega)
      go_wp2_with fail
      go_ret
      exact ⟨_, _, rfl, F2, HV.out⟩

set_option maxRecDepth 100000 in
set_option maxHeartbeats 2000000 in
theorem shiftDown_any (A : Option Addr) (ca : Nat) (a : List Nat) (s : Nat) (w : World) (ha : Sl w w.heap.size A ca a) (hla : a.length ≤ 99999999) (hs : s ≤ 31) :
    Calls Tryz.prog 172 #[.slice A a.length ca, .int .i64 (s : Int)] w (RowRes (Kn.val a / 2 ^ s) a.length w) := by
  have hmk := makeU32 a.length (by omega) ((a.length : Nat) : Int) rfl
  have HWD := Lib.hid ha.wd
  go_enter Tryz.func172, Tryz.ntmps172
  go_wp2_with fail
  have F0 := FillW.new_ w a.length
  revert F0
  generalize w.alloc (.cells (ncells .u32 (List.replicate a.length 0)) 88) = w1
  intro F0
  clear hmk
  go_loopw [6, 7] (fun hv iv wr => ∃ k h vs, k ≤ a.length ∧ iv = .int .i64 ((k : Int) - 1) ∧ hv = .int .u64 (h : Nat) ∧ h < 18446744073709551616 ∧ Hid (h % 4294967296 = a.getD k 0) ∧ FillW w wr w.heap.size a.length vs ∧ Hid (Kn.val (vs.drop k) = Kn.val (a.drop k) / 2 ^ s)) (fun _ iv _ => (intOf iv + 1).toNat)
  case atStart => exact ⟨a.length, 0, _, Nat.le_refl _, rfl, rfl, by omega, Lib.hid (by rw [List.getD_eq_getElem?_getD, List.getElem?_eq_none (Nat.le_refl _)]; rfl), F0, Lib.hid (by rw [List.drop_of_length_le (by simp), List.drop_of_length_le (Nat.le_refl _)]; simp [Kn.val])⟩
  case round =>
    obtain ⟨k, h, vs, hk, rfl, rfl, hh, HH, F, HI⟩ := hrel
    by_cases hk0 : k = 0
    · subst hk0
      have HV : Hid (Kn.val vs = Kn.val a / 2 ^ s) := Lib.hid (by have := HI.out; rwa [List.drop_zero, List.drop_zero] at this)
      go_wp2_with fail
      go_ret
      exact ⟨_, _, rfl, F, HV.out⟩
    · obtain ⟨j, rfl⟩ : ∃ j, k = j + 1 := ⟨k - 1, by omega⟩
      have hlt : j < a.length := by omega
      obtain ⟨b1, o1, x, rfl, hb1, hc1, hx, hxl⟩ := (ha.below F.bel).word hlt
      have hcg := F.row.cell (k := j) (by have := F.len; omega)
      have hfg := F.row.frozen j
      have e0 : ((j + 1 : Nat) : Int) - 1 = (j : Int) := by omega
      obtain ⟨m, hm⟩ : ∃ m, m = h % 4294967296 := ⟨_, rfl⟩
      have hml : m < 4294967296 := by omega
      have e1 : Hid (IntKind.u64.wrap ((h : Int) * 4294967296) = ((m * 4294967296 : Nat) : Int)) := Lib.hid (by rw [IntKind.wrap_u64]; omega)
      have HM : Hid (m = a.getD (j + 1) 0) := Lib.hid (by rw [hm]; exact HH.out)
      have e2 : Hid (bits BinOp.or IntKind.u64 ((m * 4294967296 : Nat) : Int) (x : Int) = ((m * 4294967296 + x : Nat) : Int)) := Lib.hid (by rw [or_any64 _ _ (by omega) (by omega), Kn.or_low m hxl])
      obtain ⟨r, hr⟩ : ∃ r : Nat, Hid (r = ((m * 4294967296 + x) / 2 ^ s) % 4294967296) := ⟨_, Lib.hid rfl⟩
      have hrl : r < 4294967296 := by rw [hr.out]; exact Nat.mod_lt _ (by decide)
      have e3 : Hid (((m * 4294967296 + x : Nat) : Int) / 2 ^ s % 4294967296 = (r : Int)) := Lib.hid (by rw [nat_pow_cast, ← Int.natCast_ediv, hr.out]; omega)
      have HH2 : Hid ((m * 4294967296 + x) % 4294967296 = a.getD j 0) := Lib.hid (by rw [← hx.out]; omega)
      have HI2 : Hid (Kn.val ((vs.set j r).drop j) = Kn.val (a.drop j) / 2 ^ s) := Lib.hid (by
        rw [hr.out, HM.out, hx.out]
        exact Kn.down_step hs HWD.out hlt (by have := F.len; omega) HI.out)
      have F2 := F.put j (x := r) hrl
      have hn : m * 4294967296 + x < 18446744073709551616 := by omega
      clear hm
      go_wp2_with fail
      rw [e1.out, e2.out, e3.out]
      go_roundw
      case rel => exact ⟨j, _, _, by omega, by go_num, rfl, hn, HH2, F2, HI2⟩
      case measure => simp [intOf]

set_option maxRecDepth 100000 in
set_option maxHeartbeats 2000000 in
theorem divideByWord_any (A : Option Addr) (ca : Nat) (a : List Nat) (n : Nat) (w : World) (ha : Sl w w.heap.size A ca a) (hla : a.length ≤ 99999999) (hn0 : 0 < n) (hn : n < 4294967296) :
    Calls Tryz.prog 168 #[.slice A a.length ca, .int .u32 (n : Int)] w fun e w' => ∃ B cb, e = .returned (.tuple #[.slice B (Kn.dig (Kn.val a / n)).length cb, .int .u32 ((Kn.val a % n : Nat) : Int)]) ∧ Sl w' w'.heap.size B cb (Kn.dig (Kn.val a / n)) ∧ Below w.heap.size w w' := by
  have hmk := makeU32 a.length (by omega) ((a.length : Nat) : Int) rfl
  go_enter Tryz.func168, Tryz.ntmps168
  go_wp2_with fail
  have F0 := FillW.new_ w a.length
  revert F0
  generalize w.alloc (.cells (ncells .u32 (List.replicate a.length 0)) 88) = w1
  intro F0
  clear hmk
  go_loopw [7, 8] (fun rv iv wr => ∃ k r vs, k ≤ a.length ∧ iv = .int .i64 ((k : Int) - 1) ∧ rv = .int .u64 (r : Nat) ∧ r < n ∧ FillW w wr w.heap.size a.length vs ∧ Hid (Kn.val (a.drop k) = n * Kn.val (vs.drop k) + r)) (fun _ iv _ => (intOf iv + 1).toNat)
  case atStart => exact ⟨a.length, 0, _, Nat.le_refl _, rfl, rfl, hn0, F0, Lib.hid (by rw [List.drop_length, List.drop_of_length_le (by simp)]; simp [Kn.val])⟩
  case round =>
    obtain ⟨k, r, vs, hk, rfl, rfl, hr, F, HI⟩ := hrel
    by_cases hk0 : k = 0
    · subst hk0
      have HV : Hid (Kn.val vs = Kn.val a / n ∧ r = Kn.val a % n) := Lib.hid (by
        have h := HI.out
        rw [List.drop_zero, List.drop_zero] at h
        rw [h, Nat.mul_add_div hn0, Nat.mul_add_mod, Nat.div_eq_of_lt hr, Nat.mod_eq_of_lt hr]; exact ⟨rfl, rfl⟩)
      have hvl := F.len
      have HVL := Lib.hid hvl
      have hT := trim_any (some ⟨w.heap.size, 0, none⟩) a.length vs _ _ F.sl (by omega)
      rw [hvl] at hT
      have HT := Lib.hid hT
      clear hvl hT
      have em : (r : Int) % 4294967296 = (r : Int) := by omega
      go_wp2_with fail
      refine HT.out.mono ?_
      rintro e w' ⟨rfl, rfl⟩
      go_wp2_with fail
      have h1 := F.sl.trim
      rw [HV.out.1] at h1 ⊢
      refine bodyPost_ret (v := .tuple #[.slice (some ⟨w.heap.size, 0, none⟩) (Kn.dig (Kn.val a / n)).length a.length, .int .u32 (r : Int)]) (by simp [results, Tryz.results168, go_sem]) rfl ?_
      exact ⟨_, _, by rw [← HV.out.2], h1, F.bel⟩
    · obtain ⟨j, rfl⟩ : ∃ j, k = j + 1 := ⟨k - 1, by omega⟩
      have hlt : j < a.length := by omega
      obtain ⟨b1, o1, x, rfl, hb1, hc1, hx, hxl⟩ := (ha.below F.bel).word hlt
      have hcg := F.row.cell (k := j) (by have := F.len; omega)
      have hfg := F.row.frozen j
      have e0 : ((j + 1 : Nat) : Int) - 1 = (j : Int) := by omega
      have hrb : r < 4294967296 := by omega
      have e2 : Hid (bits BinOp.or IntKind.u64 ((r : Int) * 4294967296) (x : Int) = ((r * 4294967296 + x : Nat) : Int)) := Lib.hid (by
        have := or_any64 (r * 4294967296) x (by omega) (by omega)
        rw [Int.natCast_mul] at this
        rw [show ((4294967296 : Nat) : Int) = 4294967296 from rfl] at this
        rw [this, Kn.or_low r hxl])
      obtain ⟨t, ht⟩ : ∃ t : Nat, Hid (t = r * 4294967296 + x) := ⟨_, Lib.hid rfl⟩
      obtain ⟨q, hq⟩ : ∃ q : Nat, Hid (q = t / n) := ⟨_, Lib.hid rfl⟩
      obtain ⟨r', hr'⟩ : ∃ r' : Nat, Hid (r' = t % n) := ⟨_, Lib.hid rfl⟩
      have hql : q < 4294967296 := by
        rw [hq.out]
        refine Nat.div_lt_of_lt_mul ?_
        have : (r + 1) * 4294967296 ≤ n * 4294967296 := Nat.mul_le_mul_right _ hr
        have := ht.out
        omega
      have hrl : r' < n := by rw [hr'.out]; exact Nat.mod_lt _ hn0
      have HI2 : Hid (Kn.val (a.drop j) = n * Kn.val ((vs.set j q).drop j) + r') := Lib.hid (Kn.dw_step hlt (by have := F.len; omega) HI.out (by rw [← hx.out, ← ht.out, hq.out, hr'.out]; exact (Nat.div_add_mod t n).symm))
      have F2 := F.put j (x := q) hql
      have hne : (n : Int) ≠ 0 := by omega
      have e3 : Hid (IntKind.u64.wrap ((t : Int).tdiv (n : Int)) % 4294967296 = (q : Int)) := Lib.hid (by rw [← Int.ofNat_tdiv, ← hq.out, wrap_nat (by omega)]; omega)
      have e4 : Hid ((t : Int).tmod (n : Int) = (r' : Int)) := Lib.hid (by rw [← Int.ofNat_tmod, ← hr'.out])
      go_wp2_with fail
      rw [e2.out, ← ht.out, e3.out, e4.out]
      go_roundw
      case rel => exact ⟨j, r', _, by omega, by go_num, rfl, hrl, F2, HI2⟩
      case measure => simp [intOf]
end Go.Proofs.YtkpomjdablopaaaGreatDoor
/- Walks: divideStep. -/
namespace Go.Proofs.YtkpomjdablopaaaGreatDoor
open Go.RowKit
set_option linter.unusedVariables false

/-- what a step of long division does: the word q, and what is left in the window -/
def DsRes (g n : Nat) (pre us0 post : List Nat) (D : Nat) (w : World) (e : Ending) (w' : World) : Prop :=
  ∃ q us, e = .returned (.int .u32 ((q : Nat) : Int)) ∧ q < 4294967296 ∧ Win w w' g pre us post n ∧ Kn.val us0 = q * D + Kn.val us ∧ Kn.val us < D

set_option maxRecDepth 100000 in
set_option maxHeartbeats 4000000 in
theorem divideStep_any (g i c n : Nat) (pre us0 post : List Nat) (B : Option Addr) (cb : Nat) (d : List Nat) (w : World) (h : Blk .u32 88 w g (pre ++ us0 ++ post)) (hpre : pre.length = i) (hul : us0.length = n + 1) (huw : Kn.Wd us0)
    (hd : Sl w g B cb d) (hdl : d.length = n) (hn2 : 2 ≤ n) (hn : n ≤ 9999999) (hi : i ≤ 9999999) (htop : 2147483648 ≤ d.getD (n - 1) 0) (hq : Kn.val us0 < 4294967296 * Kn.val d) :
    Calls Tryz.prog 171 #[.slice (some ⟨g, i, none⟩) (n + 1 : Nat) c, .slice B n cb] w (DsRes g (n + 1) pre us0 post (Kn.val d) w) := by
  have hglt := h.lt
  have I0 : Win w w g pre us0 post (n + 1) := Win.start h hul huw
  obtain ⟨m, hm⟩ : ∃ m, m = n - 2 := ⟨_, rfl⟩
  obtain ⟨n1, hn1⟩ : ∃ m, m = n - 1 := ⟨_, rfl⟩
  rw [← hn1] at htop
  obtain ⟨b1, o1, v2, hB, hb1, hc1, hv2, hv2l⟩ := hd.word (k := m) (by omega)
  obtain ⟨b1', o1', v1, hB', hb1', hc2, hv1, hv1l⟩ := hd.word (k := n1) (by omega)
  rw [hB] at hB'
  injection hB' with hB'
  injection hB' with hB1 hB2
  subst hB1 hB2
  obtain ⟨u2, hu2⟩ : ∃ u : Nat, Hid (u = us0.getD m 0) := ⟨_, Lib.hid rfl⟩
  obtain ⟨u1, hu1⟩ : ∃ u : Nat, Hid (u = us0.getD n1 0) := ⟨_, Lib.hid rfl⟩
  obtain ⟨u0, hu0⟩ : ∃ u : Nat, Hid (u = us0.getD n 0) := ⟨_, Lib.hid rfl⟩
  have hk2 := I0.cell hpre (k := m) (by omega)
  have hk1 := I0.cell hpre (k := n1) (by omega)
  have hk0 := I0.cell hpre (k := n) (by omega)
  rw [← hu2.out] at hk2
  rw [← hu1.out] at hk1
  rw [← hu0.out] at hk0
  have hu2l : u2 < 4294967296 := by rw [hu2.out]; exact huw.getD _
  have hu1l : u1 < 4294967296 := by rw [hu1.out]; exact huw.getD _
  have hu0l : u0 < 4294967296 := by rw [hu0.out]; exact huw.getD _
  obtain ⟨top, htp⟩ : ∃ t : Nat, Hid (t = u0 * 4294967296 + u1) := ⟨_, Lib.hid rfl⟩
  have hv1b : 2147483648 ≤ v1 := by rw [hv1.out]; exact htop
  have LD : Hid (Kn.LD (Kn.val us0) (Kn.val d) (Kn.pw m) v1 v2 u2 top) := Lib.hid (by
    have e1 := Kn.val_top2 (l := d) (n := m) (by omega)
    have e2 := Kn.val_top3 (l := us0) (n := m) (by omega)
    rw [show m + 1 = n1 by omega, ← hv2.out, ← hv1.out] at e1
    rw [show m + 1 = n1 by omega, show m + 2 = n by omega, ← hu2.out, ← hu1.out, ← hu0.out, show u1 + 4294967296 * u0 = top by rw [htp.out]; omega] at e2
    have h1 := Kn.val_take_lt hd.wd m
    have h2 := Kn.val_take_lt huw m
    exact ⟨by omega, by omega, by omega, by omega, hq, hv1b, hv1l, hv2l, hu2l⟩)
  have htl : top < 18446744073709551616 := by rw [htp.out]; omega
  obtain ⟨g0, hg0⟩ : ∃ x : Nat, Hid (x = top / v1) := ⟨_, Lib.hid rfl⟩
  obtain ⟨r0, hr0⟩ : ∃ x : Nat, Hid (x = top % v1) := ⟨_, Lib.hid rfl⟩
  have hg0l : g0 ≤ 4294967297 := by rw [hg0.out]; exact LD.out.guess0
  have hr0l : r0 < 4294967296 := by rw [hr0.out]; have := Nat.mod_lt top (show 0 < v1 by omega); omega
  have e1 : bits BinOp.or IntKind.u64 ((u0 : Int) * 4294967296) (u1 : Int) = (top : Int) := by
    have := or_any64 (u0 * 4294967296) u1 (by omega) (by omega)
    rw [Int.natCast_mul] at this
    rw [show ((4294967296 : Nat) : Int) = 4294967296 from rfl] at this
    rw [this, Kn.or_low u0 hu1l, htp.out]
  have e2 : Hid (IntKind.u64.wrap ((top : Int) / (v1 : Int)) = (g0 : Int)) := Lib.hid (by rw [← Int.natCast_ediv, ← hg0.out, wrap_nat (by omega)])
  have e3 : Hid ((top : Int) % (v1 : Int) = (r0 : Int)) := Lib.hid (by rw [← Int.natCast_emod, ← hr0.out])
  have hvne : (v1 : Int) ≠ 0 := by omega
  have f1 : ((n : Int) - 1).toNat = n1 := by omega
  have f2 : (0 : Int) ≤ (n : Int) - 1 := by omega
  have f3 : ((n : Int) - 2).toNat = m := by omega
  have f4 : (0 : Int) ≤ (n : Int) - 2 := by omega
  have f5 : IntKind.i64.wrap ((n : Int) - 1) = (n : Int) - 1 := by rw [IntKind.wrap_i64]; omega
  have f6 : IntKind.i64.wrap ((n : Int) - 2) = (n : Int) - 2 := by rw [IntKind.wrap_i64]; omega
  have f7 : IntKind.u64.wrap ((u0 : Int) * 4294967296) = (u0 : Int) * 4294967296 := by rw [IntKind.wrap_u64]; omega
  have HD := Lib.hid hdl
  have HU := Lib.hid hul
  have HQ := Lib.hid hq
  have HPRE := Lib.hid hpre
  have HDD := Lib.hid hd
  have HM := Lib.hid (show m + 2 = n ∧ n1 + 1 = n by omega)
  subst hB
  clear hdl hul hq htop hpre hm hn1
  go_enter Tryz.func171, Tryz.ntmps171
  go_wp2_with fail
  go_quiet (fail)
  clear e1 f7
  go_wp2_with fail
  rw [e2.out, e3.out]
  clear e2 e3
  have I1 : Win w (w.drewN nq) g pre us0 post (n + 1) := ⟨I0.row.drewN _, I0.len, I0.wd, grown_drewN I0.gr _⟩
  have HDX : Hid (Kn.val d ≤ Kn.pw (n + 1)) := Lib.hid (by
    have h1 := Kn.val_lt HDD.out.wd
    rw [HD.out] at h1
    have := Kn.pw_mono (show n ≤ n + 1 by omega)
    omega)
  have HG0 : Hid (g0 * v1 + r0 = top) := Lib.hid (by rw [hg0.out, hr0.out, Nat.mul_comm]; exact Nat.div_add_mod _ _)
  have HS0 : Hid (Kn.val us0 < (g0 + 1) * Kn.val d) := Lib.hid (by rw [hg0.out]; exact LD.out.start)
  clear I0 hk0 hk1 hk2 hc1 hc2 h
  revert I1
  generalize w.drewN nq = w1
  intro I1
  go_loopw [7, 8] (fun gv rv wr => ∃ q r, gv = .int .u64 (q : Nat) ∧ rv = .int .u64 (r : Nat) ∧ q ≤ 4294967297 ∧ r < 4294967296 ∧ Win w wr g pre us0 post (n + 1) ∧ Hid (q * v1 + r = top) ∧ Hid (Kn.val us0 < (q + 1) * Kn.val d)) (fun gv _ _ => (intOf gv).toNat)
  case atStart => exact ⟨g0, r0, rfl, rfl, hg0l, hr0l, I1, HG0, HS0⟩
  case round =>
    clear I1 HG0 HS0
    obtain ⟨q, r, rfl, rfl, hqb, hrb, I, HG, HS⟩ := hrel
    have HD2 := HDD.out.but I.gr (by omega)
    obtain ⟨b3, o3, v2', hB3, hb3, hc3, hv3, _⟩ := HD2.word (k := m) (by have := HD.out; have := HM.out; omega)
    obtain ⟨b4, o4, v1', hB4, hb4, hc4, hv4, _⟩ := HD2.word (k := n1) (by have := HD.out; have := HM.out; omega)
    injection hB3 with hB3
    injection hB3 with h31 h32
    subst h31 h32
    injection hB4 with hB4
    injection hB4 with h41 h42
    subst h41 h42
    obtain rfl : v2' = v2 := by rw [hv3.out, hv2.out]
    obtain rfl : v1' = v1 := by rw [hv4.out, hv1.out]
    have hk2 := I.cell HPRE.out (k := m) (by have := HM.out; omega)
    rw [← hu2.out] at hk2
    clear hv3 hv4
    by_cases hA : 4294967296 ≤ q
    · obtain ⟨q', rfl⟩ : ∃ q', q = q' + 1 := ⟨q - 1, by omega⟩
      have HL : Hid (Kn.val us0 < (q' + 1) * Kn.val d) := Lib.hid (LD.out.lower HG.out (Or.inl hA))
      have gA : (((q' : Int) + 1) / 4294967296 != 0) = true := by rw [bne_iff_ne]; omega
      have HG2 : Hid (q' * v1' + (r + v1') = top) := Lib.hid (by rw [← HG.out, Nat.add_mul]; omega)
      have hq0 : q' ≤ 4294967296 := by omega
      clear hA
      go_wp2_with fail
      go_quiet (fail)
      replace I := I.drewN nq
      by_cases hB : 4294967296 ≤ r + v1'
      · have gB : (((r : Int) + (v1' : Int)) / 4294967296 != 0) = true := by rw [bne_iff_ne]; omega
        have HS := HL
        have HG := HG2
        have hw1 : Hid (q' = q') := Lib.hid rfl
        obtain ⟨q, rfl⟩ : ∃ q, q = q' := ⟨_, rfl⟩
        have hBB := Lib.hid hB
        clear hB
        have hql : q < 4294967296 := LD.out.word HG.out (Or.inl hBB.out)
        have hnear : q * Kn.val d < Kn.val us0 + Kn.val d := LD.out.near HG.out hql (Or.inl hBB.out)
        have HNEAR := Lib.hid hnear
        clear hnear
        have em : (q : Int) % 4294967296 = (q : Int) := by omega
        go_wp2_with fail
        refine (subtractMultiple_any g i c n q pre us0 post (some ⟨b1, o1, none⟩) cb d _ I.row HPRE.out HU.out huw (HDD.out.but I.gr (by omega)) HD.out (by omega) (by omega) hql).mono ?_
        rintro e w2 ⟨us, bo, rfl, J, hbo, hval⟩
        have S := Lib.hid (Kn.step_end (by have := Kn.val_lt J.wd; rwa [J.len] at this) hval hbo HS.out HNEAR.out HDX.out)
        have IJ := I.on J
        rcases (show bo = 0 ∨ bo = 1 by omega) with hb0 | hb0
        · subst hb0
          clear hval
          go_wp2_with fail
          go_ret
          exact ⟨q, us, rfl, hql, IJ, S.out.1 (by first | rfl | trivial)⟩
        · subst hb0
          clear hval
          have hq0 := (S.out.2 (by first | rfl | trivial)).1
          obtain ⟨q', rfl⟩ : ∃ q', q = q' + 1 := ⟨q - 1, by omega⟩
          go_wp2_with fail
          refine (addBack_any g i c n pre us post (some ⟨b1, o1, none⟩) cb d _ J.row HPRE.out J.len J.wd (HDD.out.but IJ.gr (by omega)) HD.out (by omega) (by omega)).mono ?_
          rintro e w3 ⟨us', cr, rfl, K, hv⟩
          have em2 : (q' : Int) % 4294967296 = (q' : Int) := by omega
          have hv2 := Lib.hid hv
          clear hv
          go_wp2_with fail
          go_ret
          exact ⟨q', us', by first | rfl | (congr 2; omega), by omega, IJ.on K, by
            have := (S.out.2 (by first | rfl | trivial)).2 (Kn.val us') cr (by have := Kn.val_lt K.wd; rwa [K.len] at this) hv2.out
            rwa [Nat.add_sub_cancel] at this⟩
      · have gB : (((r : Int) + (v1' : Int)) / 4294967296 != 0) = false := by rw [bne_eq_false_iff_eq]; omega
        have hr2 : r + v1' < 4294967296 := by omega
        clear hB
        go_wp2_with fail
        go_roundw
        case rel => exact ⟨q', r + v1', by first | rfl | (congr 1; omega), by first | rfl | (congr 1; omega), by omega, hr2, I, HG2, HL⟩
        case measure => first | (simp [intOf]; done) | (simp [intOf]; omega)
    · have gA : ((q : Int) / 4294967296 != 0) = false := by rw [bne_eq_false_iff_eq]; omega
      obtain ⟨p, hp⟩ : ∃ p : Nat, Hid (p = q * v2') := ⟨_, Lib.hid rfl⟩
      obtain ⟨s, hs⟩ : ∃ s : Nat, Hid (s = r * 4294967296 + u2) := ⟨_, Lib.hid rfl⟩
      have hpl : p < 18446744073709551616 := by rw [hp.out]; exact Nat.lt_of_le_of_lt (Nat.mul_le_mul (show q ≤ 4294967295 by omega) (show v2' ≤ 4294967295 by omega)) (by decide)
      have ep : IntKind.u64.wrap ((q : Int) * (v2' : Int)) = (p : Int) := by rw [← Int.natCast_mul, ← hp.out]; exact wrap_nat hpl
      have es : bits BinOp.or IntKind.u64 ((r : Int) * 4294967296) (u2 : Int) = (s : Int) := by
        have := or_any64 (r * 4294967296) u2 (by omega) (by omega)
        rw [Int.natCast_mul] at this
        rw [show ((4294967296 : Nat) : Int) = 4294967296 from rfl] at this
        rw [this, Kn.or_low r hu2l, hs.out]
      have es2 : IntKind.u64.wrap ((r : Int) * 4294967296) = (r : Int) * 4294967296 := by rw [IntKind.wrap_u64]; omega
      by_cases hC : s < p
      · have hq0 : 1 ≤ q := by
          rcases Nat.eq_zero_or_pos q with h0 | h0
          · have := hp.out; rw [h0, Nat.zero_mul] at this; omega
          · exact h0
        have HL0 : Hid (Kn.val us0 < q * Kn.val d) := Lib.hid (LD.out.lower HG.out (Or.inr (by rw [← hp.out, ← hs.out]; exact hC)))
        obtain ⟨q', rfl⟩ : ∃ q', q = q' + 1 := ⟨q - 1, by omega⟩
        have HL := HL0
        have gC : decide ((s : Int) < (p : Int)) = true := by simp; omega
        have gC2 : decide (s < p) = true := by simp; omega
        have HG2 : Hid (q' * v1' + (r + v1') = top) := Lib.hid (by rw [← HG.out, Nat.add_mul]; omega)
        have HC := Lib.hid hC
        have hql0 : q' < 4294967296 := by omega
        have gA' : (((q' : Int) + 1) / 4294967296 != 0) = false := by rw [bne_eq_false_iff_eq]; omega
        have ep' : IntKind.u64.wrap (((q' : Int) + 1) * (v2' : Int)) = (p : Int) := by rw [show ((q' : Int) + 1) = ((q' + 1 : Nat) : Int) by omega]; exact ep
        clear hC hA gA
        clear ep
        have ep := ep'
        clear ep'
        go_wp2_with fail
        go_quiet (fail)
        replace I := I.drewN nq
        clear ep es es2 gC gC2
        by_cases hB : 4294967296 ≤ r + v1'
        · have gB : (((r : Int) + (v1' : Int)) / 4294967296 != 0) = true := by rw [bne_iff_ne]; omega
          have HS := HL
          have HG := HG2
          have hw1 : Hid (q' = q') := Lib.hid rfl
          obtain ⟨q, rfl⟩ : ∃ q, q = q' := ⟨_, rfl⟩
          have hBB := Lib.hid hB
          clear hB
          have hql : q < 4294967296 := LD.out.word HG.out (Or.inl hBB.out)
          have hnear : q * Kn.val d < Kn.val us0 + Kn.val d := LD.out.near HG.out hql (Or.inl hBB.out)
          have HNEAR := Lib.hid hnear
          clear hnear
          have em : (q : Int) % 4294967296 = (q : Int) := by omega
          go_wp2_with fail
          refine (subtractMultiple_any g i c n q pre us0 post (some ⟨b1, o1, none⟩) cb d _ I.row HPRE.out HU.out huw (HDD.out.but I.gr (by omega)) HD.out (by omega) (by omega) hql).mono ?_
          rintro e w2 ⟨us, bo, rfl, J, hbo, hval⟩
          have S := Lib.hid (Kn.step_end (by have := Kn.val_lt J.wd; rwa [J.len] at this) hval hbo HS.out HNEAR.out HDX.out)
          have IJ := I.on J
          rcases (show bo = 0 ∨ bo = 1 by omega) with hb0 | hb0
          · subst hb0
            clear hval
            go_wp2_with fail
            go_ret
            exact ⟨q, us, rfl, hql, IJ, S.out.1 (by first | rfl | trivial)⟩
          · subst hb0
            clear hval
            have hq0 := (S.out.2 (by first | rfl | trivial)).1
            obtain ⟨q', rfl⟩ : ∃ q', q = q' + 1 := ⟨q - 1, by omega⟩
            go_wp2_with fail
            refine (addBack_any g i c n pre us post (some ⟨b1, o1, none⟩) cb d _ J.row HPRE.out J.len J.wd (HDD.out.but IJ.gr (by omega)) HD.out (by omega) (by omega)).mono ?_
            rintro e w3 ⟨us', cr, rfl, K, hv⟩
            have em2 : (q' : Int) % 4294967296 = (q' : Int) := by omega
            have hv2 := Lib.hid hv
            clear hv
            go_wp2_with fail
            go_ret
            exact ⟨q', us', by first | rfl | (congr 2; omega), by omega, IJ.on K, by
              have := (S.out.2 (by first | rfl | trivial)).2 (Kn.val us') cr (by have := Kn.val_lt K.wd; rwa [K.len] at this) hv2.out
              rwa [Nat.add_sub_cancel] at this⟩
        · have gB : (((r : Int) + (v1' : Int)) / 4294967296 != 0) = false := by rw [bne_eq_false_iff_eq]; omega
          have hr2 : r + v1' < 4294967296 := by omega
          clear hB
          go_wp2_with fail
          go_roundw
          case rel => exact ⟨q', r + v1', by first | rfl | (congr 1; omega), by first | rfl | (congr 1; omega), by omega, hr2, I, HG2, HL⟩
          case measure => first | (simp [intOf]; done) | (simp [intOf]; omega)
      · have gC : decide ((s : Int) < (p : Int)) = false := by simp; omega
        have gC2 : decide (s < p) = false := by simp; omega
        have HE : Hid (q * v2' ≤ r * 4294967296 + u2) := Lib.hid (by rw [← hp.out, ← hs.out]; omega)
        have HQL : Hid (q < 4294967296) := Lib.hid (by omega)
        clear hC hA
        go_wp2_with fail
        go_quiet (fail)
        replace I := I.drewN nq
        clear ep es es2 gC gC2
        have hql : q < 4294967296 := LD.out.word HG.out (Or.inr HQL.out)
        have hnear : q * Kn.val d < Kn.val us0 + Kn.val d := LD.out.near HG.out hql (Or.inr HE.out)
        have HNEAR := Lib.hid hnear
        clear hnear
        have em : (q : Int) % 4294967296 = (q : Int) := by omega
        go_wp2_with fail
        refine (subtractMultiple_any g i c n q pre us0 post (some ⟨b1, o1, none⟩) cb d _ I.row HPRE.out HU.out huw (HDD.out.but I.gr (by omega)) HD.out (by omega) (by omega) hql).mono ?_
        rintro e w2 ⟨us, bo, rfl, J, hbo, hval⟩
        have S := Lib.hid (Kn.step_end (by have := Kn.val_lt J.wd; rwa [J.len] at this) hval hbo HS.out HNEAR.out HDX.out)
        have IJ := I.on J
        rcases (show bo = 0 ∨ bo = 1 by omega) with hb0 | hb0
        · subst hb0
          clear hval
          go_wp2_with fail
          go_ret
          exact ⟨q, us, rfl, hql, IJ, S.out.1 (by first | rfl | trivial)⟩
        · subst hb0
          clear hval
          have hq0 := (S.out.2 (by first | rfl | trivial)).1
          obtain ⟨q', rfl⟩ : ∃ q', q = q' + 1 := ⟨q - 1, by omega⟩
          go_wp2_with fail
          refine (addBack_any g i c n pre us post (some ⟨b1, o1, none⟩) cb d _ J.row HPRE.out J.len J.wd (HDD.out.but IJ.gr (by omega)) HD.out (by omega) (by omega)).mono ?_
          rintro e w3 ⟨us', cr, rfl, K, hv⟩
          have em2 : (q' : Int) % 4294967296 = (q' : Int) := by omega
          have hv2 := Lib.hid hv
          clear hv
          go_wp2_with fail
          go_ret
          exact ⟨q', us', by first | rfl | (congr 2; omega), by omega, IJ.on K, by
            have := (S.out.2 (by first | rfl | trivial)).2 (Kn.val us') cr (by have := Kn.val_lt K.wd; rwa [K.len] at this) hv2.out
            rwa [Nat.add_sub_cancel] at this⟩

end Go.Proofs.YtkpomjdablopaaaGreatDoor
/- Walks: divideWords. -/
namespace Go.Proofs.YtkpomjdablopaaaGreatDoor
open Go.RowKit
set_option linter.unusedVariables false

/-- quotient and remainder, in canonical form -/
def DivRes (q r : Nat) (w : World) (e : Ending) (w' : World) : Prop :=
  ∃ A c B d, e = .returned (.tuple #[.slice A (Kn.dig q).length c, .slice B (Kn.dig r).length d]) ∧ Sl w' w'.heap.size A c (Kn.dig q) ∧ Sl w' w'.heap.size B d (Kn.dig r) ∧ Below w.heap.size w w'

/-- the leading zeros of a word -/
theorem lz_word (t : Nat) (h0 : 0 < t) (h : t < 4294967296) : ∃ s : Nat, s ≤ 31 ∧ 2147483648 ≤ t * 2 ^ s ∧ t * 2 ^ s < 4294967296 ∧ (32 - (Lib.bitLen ((t : Nat) : Int).toNat : Int)) = (s : Int) := by
  have h1 := Lib.bitLenAux_bounds 64 t (by omega) (by omega)
  have h2 := Any.bitLen_le32 (t : Int) (by omega) (by omega)
  rw [Int.toNat_natCast] at h2 ⊢
  obtain ⟨l, hl⟩ : ∃ l, l = Lib.bitLen t := ⟨_, rfl⟩
  have hl' : Lib.bitLenAux 64 t = l := hl.symm
  rw [hl'] at h1
  rw [← hl] at h2 ⊢
  have h3 : l ≤ 32 := by omega
  refine ⟨32 - l, by omega, ?_, ?_, by omega⟩
  · have : 2 ^ (l - 1) * 2 ^ (32 - l) = 2147483648 := by rw [← Nat.pow_add, show l - 1 + (32 - l) = 31 by omega]
    rw [← this]; exact Nat.mul_le_mul_right _ h1.2.1
  · have : 2 ^ l * 2 ^ (32 - l) = 4294967296 := by rw [← Nat.pow_add, show l + (32 - l) = 32 by omega]
    rw [← this]; exact Nat.mul_lt_mul_of_pos_right h1.2.2 (Nat.pow_pos (by decide))
theorem lz32 (t : Nat) (h0 : 0 < t) (h : t < 4294967296) : ∃ s : Nat, s ≤ 31 ∧ 2147483648 ≤ t * 2 ^ s ∧ t * 2 ^ s < 4294967296 ∧ ∀ w : World, Calls Tryz.prog 169 #[.int .u32 (t : Int)] w fun e w' => e = .returned (.int .i64 (s : Int)) ∧ w = w' := by
  obtain ⟨s, h1, h2, h3, h4⟩ := lz_word t h0 h
  exact ⟨s, h1, h2, h3, fun w => (Tryz.bits_LeadingZeros32 (t : Int) w (by omega) (by omega)).mono fun e w' ⟨he, hw⟩ => ⟨by rw [he, h4], hw.symm⟩⟩

/-- the three rows of a long division -/
structure Dw (w wr : World) (gd gr gq : Nat) (d vs qs : List Nat) (nd nr nq : Nat) : Prop where
  bd : Blk .u32 88 wr gd d
  br : Blk .u32 88 wr gr vs
  bq : Blk .u32 88 wr gq qs
  h1 : w.heap.size ≤ gd
  h2 : gd < gr
  h3 : gr < gq
  bel : Below w.heap.size w wr
  wd : Kn.Wd d
  wv : Kn.Wd vs
  wq : Kn.Wd qs
  ld : d.length = nd
  lv : vs.length = nr
  lq : qs.length = nq
section
variable {w wr wx : World} {gd gr gq nd nr nq : Nat} {d vs qs : List Nat}
theorem Dw.dsl (h : Dw w wr gd gr gq d vs qs nd nr nq) (k c : Nat) (hc : nd ≤ c) : Sl wr gr (some ⟨gd, 0, none⟩) c (d.take k) :=
  ⟨(h.bd.nums h.h2).take k, h.wd.take k, Nat.le_trans (List.length_take_le' _ _) (by rw [h.ld]; exact hc), fun e => by cases e⟩
theorem Dw.rsl (h : Dw w wr gd gr gq d vs qs nd nr nq) : Sl wr wr.heap.size (some ⟨gr, 0, none⟩) nr vs := ⟨h.br.nums h.br.lt, h.wv, Nat.le_of_eq h.lv, fun e => by cases e⟩
theorem Dw.qsl (h : Dw w wr gd gr gq d vs qs nd nr nq) : Sl wr wr.heap.size (some ⟨gq, 0, none⟩) nq qs := ⟨h.bq.nums h.bq.lt, h.wq, Nat.le_of_eq h.lq, fun e => by cases e⟩
theorem Dw.step (h : Dw w wr gd gr gq d vs qs nd nr nq) {pre us post : List Nat} {n k q : Nat} (hw : Win wr wx gr pre us post n) (hwd : Kn.Wd (pre ++ us ++ post)) (hl : (pre ++ us ++ post).length = nr) (hq : q < 4294967296) :
    Dw w (wx.setCell ⟨gq, k, none⟩ (.int .u32 (q : Int))) gd gr gq d (pre ++ us ++ post) (qs.set k q) nd nr nq := by
  have h1 := h.h1
  have h2 := h.h2
  have h3 := h.h3
  have hs := h.bel.size
  refine ⟨(h.bd.but hw.gr (by omega)).far (by show gd ≠ gq; omega) _, hw.row.far (by show gr ≠ gq; omega) _, (h.bq.but hw.gr (by omega)).set_ k q, h1, h2, h3, ?_, h.wd, hwd, h.wq.set k hq, h.ld, hl, by rw [List.length_set]; exact h.lq⟩
  exact (h.bel.grown hw.gr (by omega) (fun k e => by injection e with e; omega)).setCell (p := ⟨gq, k, none⟩) (by show w.heap.size ≤ gq; omega) _
end
theorem Sl.one_new (w : World) (x : Nat) (hx : x < 4294967296) : Sl (w.alloc (.cells #[.int .u32 (x : Int)] 88)) (w.heap.size + 1) (some ⟨w.heap.size, 0, none⟩) 1 [x] :=
  ⟨(Blk.new_ .u32 88 w [x]).nums (by omega), Kn.Wd.cons hx Kn.Wd.nil, Nat.le_refl _, fun e => by cases e⟩

set_option maxRecDepth 100000 in
set_option maxHeartbeats 4000000 in
theorem divideWords_any (N M : Nat) (A : Option Addr) (ca : Nat) (B : Option Addr) (cb : Nat) (w : World) (ha : Sl w w.heap.size A ca (Kn.dig N)) (hb : Sl w w.heap.size B cb (Kn.dig M)) (hM : 0 < M) (hla : (Kn.dig N).length ≤ 999999) (hlb : (Kn.dig M).length ≤ 999999) :
    Calls Tryz.prog 148 #[.slice A (Kn.dig N).length ca, .slice B (Kn.dig M).length cb] w (DivRes (N / M) (N % M) w) := by
  have hlp := Kn.dig_len_pos.2 hM
  rcases Nat.lt_or_ge N M with hNM | hNM
  · have hc : Hid (Kn.cmp N M = -1) := Lib.hid (Kn.cmp_lt hNM)
    have hq0 : Hid (N / M = 0 ∧ N % M = N) := Lib.hid ⟨Nat.div_eq_of_lt hNM, Nat.mod_eq_of_lt hNM⟩
    rw [hq0.out.1, hq0.out.2]
    have HB := Lib.hid hlb
    have HL := Lib.hid hla
    clear hlp hNM hla hlb
    go_enter Tryz.func148, Tryz.ntmps148
    go_wp2_with fail
    refine (compareWords_any A ca N B cb M w _ ha hb (by have := HL.out; omega) (by have := HB.out; omega)).mono ?_
    rintro e w1 ⟨rfl, q, rfl⟩
    rw [hc.out]
    go_wp2_with fail
    refine (clone_any A ca _ (w.drewN q) (ha.drewN q) (by have := HL.out; omega)).mono ?_
    rintro e w2 ⟨A2, c2, rfl, hS, hb2⟩
    go_wp2_with fail
    go_ret2
    refine ⟨none, 0, A2, c2, by rw [Kn.dig_zero]; rfl, by rw [Kn.dig_zero]; exact Sl.nil _ _, hS, (bDrew (Below.refl _ _) q).trans (hb2.mono (Nat.le_refl _))⟩
  · rcases Decidable.em ((Kn.dig M).length = 1) with h1 | h1
    · have hgc : Hid (decide (Kn.cmp N M < 0) = false) := Lib.hid (by
        rcases Nat.lt_or_ge M N with h | h
        · rw [Kn.cmp_gt h]; rfl
        · rw [show N = M by omega, Kn.cmp_self]; rfl)
      obtain ⟨cm, hcm⟩ : ∃ cm, Hid (cm = Kn.cmp N M) := ⟨_, Lib.hid rfl⟩
      rw [← hcm.out] at hgc
      have gc := hgc.out
      obtain ⟨b1, o1, x, rfl, hb1, hc1, hx, hxl⟩ := hb.word (k := 0) (by omega)
      have hxM : Hid (x = M) := Lib.hid (by
        have h2 := Kn.val_dig M
        obtain ⟨y, hy⟩ : ∃ y, Kn.dig M = [y] := List.length_eq_one_iff.1 h1
        rw [hy] at h2 hx
        rw [Kn.val_one] at h2
        rw [hx.out, ← h2]; rfl)
      have HM1 := Lib.hid h1
      rw [Nat.add_zero] at hc1
      have HA := Lib.hid (fun W (h : Sl W W.heap.size A ca (Kn.dig N)) => divideByWord_any A ca (Kn.dig N) x W h (by omega) (by rw [hxM.out]; exact hM) hxl)
      have HCW := Lib.hid (fun W (ha : Sl W W.heap.size A ca (Kn.dig N)) (hb : Sl W W.heap.size (some ⟨b1, o1, none⟩) cb (Kn.dig M)) => compareWords_any A ca N (some ⟨b1, o1, none⟩) cb M W _ ha hb (by omega) (by omega))
      rw [h1]
      rw [h1] at HCW
      obtain ⟨r, hr⟩ : ∃ r, Hid (r = N % M) := ⟨_, Lib.hid rfl⟩
      obtain ⟨Q, hQ⟩ : ∃ r, Hid (r = N / M) := ⟨_, Lib.hid rfl⟩
      have hrl : r < 4294967296 := by rw [hr.out]; have := Nat.mod_lt N hM; have := hxM.out; omega
      rw [← hr.out, ← hQ.out]
      have HL := Lib.hid hla
      clear h1 hlp hlb hNM hla gc
      go_enter Tryz.func148, Tryz.ntmps148
      go_wp2_with fail
      refine (HCW.out w ha hb).mono ?_
      rintro e w1 ⟨rfl, q, rfl⟩
      rw [← hcm.out]
      have gc := hgc.out
      go_wp2_with fail
      refine (HA.out (w.drewN q) (ha.drewN q)).mono ?_
      rintro e w2 ⟨A2, c2, rfl, hS, hb2⟩
      rw [Kn.val_dig, hxM.out, ← hr.out, ← hQ.out]
      rw [Kn.val_dig, hxM.out, ← hQ.out] at hS
      have T1 := Sl.one_new w2 r hrl
      go_wp2_with fail
      refine (trim_any (some ⟨w2.heap.size, 0, none⟩) 1 [r] _ _ T1 (by simp)).mono ?_
      rintro e w3 ⟨rfl, rfl⟩
      rw [Kn.val_one]
      go_wp2_with fail
      go_ret2
      have T2 := T1.trim
      rw [Kn.val_one] at T2
      exact ⟨A2, c2, some ⟨w2.heap.size, 0, none⟩, 1, rfl, (hS.alloc (Nat.le_refl _) _).more (by simp), T2.more (by simp), ((bDrew (Below.refl _ _) q).trans (hb2.mono (Nat.le_refl _))).alloc (by have := hb2.size; simpa using this) _⟩
    · have hgc : Hid (decide (Kn.cmp N M < 0) = false) := Lib.hid (by
        rcases Nat.lt_or_ge M N with h | h
        · rw [Kn.cmp_gt h]; rfl
        · rw [show N = M by omega, Kn.cmp_self]; rfl)
      obtain ⟨cm, hcm⟩ : ∃ cm, Hid (cm = Kn.cmp N M) := ⟨_, Lib.hid rfl⟩
      rw [← hcm.out] at hgc
      obtain ⟨n, hn⟩ : ∃ n, Hid (n = (Kn.dig M).length) := ⟨_, Lib.hid rfl⟩
      obtain ⟨l, hl⟩ : ∃ n, Hid (n = (Kn.dig N).length) := ⟨_, Lib.hid rfl⟩
      have hn2 : 2 ≤ n := by rw [hn.out]; omega
      have hnl : n ≤ l := by
        rw [hn.out, hl.out]
        rw [← Nat.not_lt]
        intro h
        have := Kn.dig_mono h
        omega
      obtain ⟨b1, o1, x, rfl, hb1, hc1, hx, hxl⟩ := hb.word (k := n - 1) (by rw [← hn.out]; omega)
      have hx0 : 0 < x := by
        rw [hx.out, hn.out]
        have := Kn.dig_last hM
        omega
      obtain ⟨s, hs, hs1, hs2, HLZ⟩ := lz32 x hx0 hxl
      have HZ := Lib.hid HLZ
      clear HLZ
      have HCW := Lib.hid (fun W (ha : Sl W W.heap.size A ca (Kn.dig N)) (hb : Sl W W.heap.size (some ⟨b1, o1, none⟩) cb (Kn.dig M)) => compareWords_any A ca N (some ⟨b1, o1, none⟩) cb M W _ ha hb (by omega) (by omega))
      have HUB := Lib.hid (fun W (h : Sl W W.heap.size (some ⟨b1, o1, none⟩) cb (Kn.dig M)) => shiftUp_any (some ⟨b1, o1, none⟩) cb (Kn.dig M) s W h (by omega) hs)
      have HUA := Lib.hid (fun W (h : Sl W W.heap.size A ca (Kn.dig N)) => shiftUp_any A ca (Kn.dig N) s W h (by omega) hs)
      rw [← hn.out] at HCW HUB ⊢
      rw [← hl.out] at HCW HUA ⊢
      rw [Kn.val_dig] at HUA HUB
      have hb3 : l ≤ 999999 := by rw [hl.out]; exact hla
      have e1 : ((n : Int) - 1).toNat = n - 1 := by omega
      have e2 : (0 : Int) ≤ (n : Int) - 1 := by omega
      have g1 : ((n : Int) == 1) = false := by rw [beq_eq_false_iff_ne]; omega
      have HDI := Lib.hid (Kn.shiftdiv_setup (N := N) (M := M) (s := s) (by rw [← hn.out]; exact hn2) (by rw [← hn.out, ← hx.out]; exact hs1) (by rw [← hn.out, ← hx.out]; exact hs2))
      have S1 := Lib.hid hs1
      have S2 := Lib.hid hs2
      clear hs1 hs2 h1 hlp hlb hNM hla
      go_enter Tryz.func148, Tryz.ntmps148
      go_wp2_with fail
      refine (HCW.out w ha hb).mono ?_
      rintro e w1 ⟨rfl, q, rfl⟩
      rw [← hcm.out]
      have gc := hgc.out
      replace ha : Sl (w.drewN q) (w.drewN q).heap.size A ca (Kn.dig N) := ha.drewN q
      replace hb : Sl (w.drewN q) (w.drewN q).heap.size (some ⟨b1, o1, none⟩) cb (Kn.dig M) := hb.drewN q
      have bel := bDrew (Below.refl w.heap.size w) q
      have hc1' : (w.drewN q).cell? ⟨b1, o1 + (n - 1), none⟩ = some (.int .u32 (x : Int)) := hc1
      clear hc1
      revert ha hb bel hc1'
      generalize w.drewN q = w2
      intro ha hb bel hc1
      go_wp2_with fail
      refine (HZ.out _).mono ?_
      rintro e w3 ⟨rfl, rfl⟩
      go_wp2_with fail
      refine (HUB.out _ hb).mono ?_
      rintro e w3 ⟨gd, d, rfl, Fd, hvd⟩
      have HVD := Lib.hid hvd
      clear hvd hc1
      have hgd := Fd.row.lt
      replace ha := ha.at_ Fd.bel (Nat.le_refl _)
      go_wp2_with fail
      refine (HUA.out _ ha).mono ?_
      rintro e w4 ⟨gr, vs0, rfl, Fr, hvr⟩
      have HVR := Lib.hid hvr
      clear hvr
      obtain ⟨mq, hmq⟩ : ∃ m, m = l - n + 1 := ⟨_, rfl⟩
      have hmk := makeU32 mq (by omega) (((l : Int) - (n : Int)) + 1) (by omega)
      have e3 : (((l : Int) - (n : Int)) + 1).toNat = mq := by omega
      have hml : mq + n = l + 1 := by omega
      have HMQ := Lib.hid hmq
      clear hmq
      go_wp2_with fail
      have hgr := Fr.hg
      have hgr2 := Fr.row.lt
      have hwd := Fd.hg
      have hb2 := bel.size
      have D0 : Dw w (w4.alloc (.cells (ncells .u32 (List.replicate mq 0)) 88)) gd gr w4.heap.size d vs0 (List.replicate mq 0) (n + 1) (l + 1) mq :=
        ⟨(Fd.row.below Fr.bel hgd).alloc _, Fr.row.alloc _, Blk.new_ _ _ _ _, by omega, by omega, by omega, ((bel.trans (Fd.bel.mono hb2)).trans (Fr.bel.mono (by have := Fd.bel.size; omega))).alloc (by omega) _, Fd.wd, Fr.wd, Kn.Wd.zeros _, Fd.len, Fr.len, by simp⟩
      obtain ⟨D, hD⟩ : ∃ D, Hid (D = M * 2 ^ s) := ⟨_, Lib.hid rfl⟩
      have HDL : Hid (D < Kn.pw n) := Lib.hid (by rw [hD.out, hn.out]; exact HDI.out.1)
      have HDT : Hid (Kn.val (d.take n) = D ∧ (d.take n).length = n ∧ 2147483648 ≤ (d.take n).getD (n - 1) 0) := Lib.hid (by
        have h1 : Kn.val (d.take n) = D := by rw [Kn.val_take_small Fd.len (by rw [HVD.out, ← hD.out]; exact HDL.out), HVD.out, hD.out]
        have h2 : (d.take n).length = n := by rw [List.length_take, Fd.len]; omega
        have h3 := HDI.out.2.1 (d.take n) (Fd.wd.take n)
        rw [← hn.out] at h3
        exact ⟨h1, h2, h3 h2 (by rw [h1, hD.out])⟩)
      have HI0 : Hid (N * 2 ^ s = Kn.val vs0 + D * (Kn.pw mq * Kn.val ((List.replicate mq 0).drop mq)) ∧ Kn.val (vs0.drop mq) < D) := Lib.hid (by
        refine ⟨by rw [List.drop_of_length_le (by simp), HVR.out]; simp [Kn.val], ?_⟩
        have h3 := HDI.out.2.2 vs0 Fr.wd
        rw [← hl.out, ← hn.out, ← hD.out, ← HMQ.out] at h3
        exact h3 Fr.len HVR.out hnl)
      revert D0
      generalize w4.alloc (.cells (ncells .u32 (List.replicate mq 0)) 88) = w5
      generalize w4.heap.size = gq
      intro D0
      clear hmk hgr hgr2 hwd hb2 hgd Fd Fr bel ha hb HUA HUB HCW HZ HDI
      go_loopw [11] (fun iv wr => ∃ k vs qs, k ≤ mq ∧ iv = .int .i64 ((k : Int) - 1) ∧ Dw w wr gd gr gq d vs qs (n + 1) (l + 1) mq ∧ Hid (N * 2 ^ s = Kn.val vs + D * (Kn.pw k * Kn.val (qs.drop k)) ∧ Kn.val (vs.drop k) < D)) (fun iv _ => (intOf iv + 1).toNat)
      case atStart => exact ⟨mq, vs0, _, Nat.le_refl _, rfl, D0, HI0⟩
      case round =>
        clear D0 HI0
        obtain ⟨k, vs, qs, hk, rfl, I, HI⟩ := hrel
        by_cases hk0 : k = 0
        · subst hk0
          have HF := Lib.hid (Kn.shift_end (n := N) (m := M) (s := s) (q := Kn.val qs) (r := Kn.val vs) hM (by
            have h := HI.out.1
            rw [List.drop_zero, Kn.pw_zero, Nat.one_mul] at h
            rw [← hD.out]; exact h) (by have := HI.out.2; rwa [List.drop_zero, hD.out] at this))
          have hlv := I.lv
          have hlq := I.lq
          have hTq := trim_any (some ⟨gq, 0, none⟩) mq qs wr _ I.qsl (by omega)
          rw [hlq] at hTq
          have hSd := shiftDown_any (some ⟨gr, 0, none⟩) (l + 1) vs s wr I.rsl (by omega) hs
          rw [hlv] at hSd
          have HTQ := Lib.hid hTq
          have HSD := Lib.hid hSd
          have QS := I.qsl.trim
          rw [HF.out.1] at QS
          have HLV := Lib.hid hlv
          clear hTq hSd hlv hlq
          go_wp2_with fail
          refine HTQ.out.mono ?_
          rintro e w6 ⟨rfl, rfl⟩
          go_wp2_with fail
          refine HSD.out.mono ?_
          rintro e w7 ⟨g7, us, rfl, F7, hv7⟩
          rw [HF.out.2] at hv7
          have hT7 := trim_any (some ⟨g7, 0, none⟩) (l + 1) us w7 _ F7.sl (by have := F7.len; omega)
          rw [F7.len, hv7] at hT7
          have HT7 := Lib.hid hT7
          have S7 := F7.sl.trim
          rw [hv7] at S7
          clear hT7 hv7
          go_wp2_with fail
          refine HT7.out.mono ?_
          rintro e w8 ⟨rfl, rfl⟩
          rw [HF.out.1]
          go_wp2_with fail
          go_ret2
          exact ⟨_, _, _, _, rfl, QS.at_ F7.bel (Nat.le_refl _), S7, I.bel.trans (F7.bel.mono I.bel.size)⟩
        · obtain ⟨j, rfl⟩ : ∃ j, k = j + 1 := ⟨k - 1, by omega⟩
          have e0 : ((j + 1 : Nat) : Int) - 1 = (j : Int) := by omega
          have e4 : ((j : Int) + (n : Int) + 1).toNat = j + n + 1 := by omega
          have hne : ¬ (l + 1 = j) := by omega
          have hlv := I.lv
          have HB := I.br
          rw [← Kn.mid_eq vs j (n + 1)] at HB
          have hjq : j < mq := by omega
          have hgq := I.bq.cell (k := j) (by have := I.lq; omega)
          have hpre : (vs.take j).length = j := by rw [List.length_take]; omega
          have hul : ((vs.drop j).take (n + 1)).length = n + 1 := by rw [List.length_take, List.length_drop]; omega
          have HS := Lib.hid (divideStep_any gr j (l + 1 - j) n (vs.take j) ((vs.drop j).take (n + 1)) (vs.drop (j + (n + 1))) (some ⟨gd, 0, none⟩) (n + 1) (d.take n) wr HB hpre hul ((I.wv.drop j).take (n + 1)) (I.dsl n (n + 1) (Nat.le_refl _)) HDT.out.2.1 hn2 (by omega) (by omega) HDT.out.2.2 (by rw [HDT.out.1]; exact Kn.long_pre I.wv (by omega) HI.out.2))
          have HLV := Lib.hid hlv
          have HPR := Lib.hid hpre
          have HUL := Lib.hid hul
          clear hpre hul hlv HB
          go_wp2_with fail
          rw [show j + n + 1 - j = n + 1 by omega]
          refine HS.out.mono ?_
          rintro e w6 ⟨q, us, rfl, hql, hW, hqu, hus⟩
          rw [HDT.out.1] at hqu hus
          have hcq : ∃ u, w6.cell? ⟨gq, j, none⟩ = some u := ⟨_, ((I.bq.but hW.gr (by have := I.h3; omega)).cell (k := j) (by have := I.lq; omega))⟩
          obtain ⟨u, hcu⟩ := hcq
          have hfu := (I.bq.but hW.gr (by have := I.h3; omega)).frozen j
          have HL := Lib.hid (Kn.long_step (A := N * 2 ^ s) (D := D) (i := j) (n := n) (q := q) (vs := vs) (qs := qs) (us := us) (by have := I.lq; omega) (by have := HLV.out; omega) HDL.out HI.out.1 HI.out.2 hqu hW.len hus)
          have J := I.step (k := j) hW (((I.wv.take j).append hW.wd).append (I.wv.drop _)) (by rw [List.length_append, List.length_append, List.length_take, List.length_drop, hW.len]; have := HLV.out; omega) hql
          have HQU := Lib.hid hqu
          clear hqu hus hgq
          go_wp2_with fail
          go_roundw
          case rel => exact ⟨j, _, _, by omega, by go_num, J, HL⟩
          case measure => first | (simp [intOf]; done) | (simp [intOf]; omega)
end Go.Proofs.YtkpomjdablopaaaGreatDoor
