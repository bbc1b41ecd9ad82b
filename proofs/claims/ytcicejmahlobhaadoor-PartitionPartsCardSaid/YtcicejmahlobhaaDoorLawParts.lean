/- The law PartitionParts, walked. -/
import Derived.Test.YtcicejmahlobhaaDoorLawSets
namespace Go.Proofs.YtcicejmahlobhaaDoor
open Go.RowKit Bs
set_option linter.unusedVariables false

theorem Ints.take {w : World} {B : Nat} {A : Option Addr} {zs : List Int} (h : Ints w B A zs) (n : Nat) : Ints w B A (zs.take n) where
  row := ⟨fun hp => by
    have hp' : 0 < zs.length := by rw [List.length_map, List.length_take] at hp; omega
    obtain ⟨b, off, e, hb, hc⟩ := h.row.cells (by rw [List.length_map]; exact hp')
    refine ⟨b, off, e, hb, fun k u hu => hc k u ?_⟩
    rw [List.getElem?_map, List.getElem?_take] at hu
    split at hu
    · rw [List.getElem?_map]; exact hu
    · simp at hu⟩
  lo x hx := h.lo x (List.mem_of_mem_take hx)
theorem min2 (a b n : Int) (h : n = min a b) (ts : Array TypeId) (t : TypeId) (W : World) : (Builtin.min_ ts t #[.int .i64 a, .int .i64 b]).run Tryd.prog W = .ok (.int .i64 n) W := by
  have e : ∀ x y : Int, (if y < x then y else x) = min x y := fun x y => by split <;> omega
  simp [Builtin.min_, Builtin.min2, List.foldlM, e, go_sem, h]

namespace Ks
theorem bitAt_one (x j : Nat) (hx : x < 2 ^ 64) : Kb.bitAt [x] j = x.testBit j := by
  unfold Kb.bitAt
  by_cases h : j < 64
  · rw [show j / 64 = 0 by omega, show j % 64 = j by omega]; rfl
  · rw [Kb.testBit_ge hx (by omega), List.getD_eq_getElem?_getD, List.getElem?_eq_none (by simp; omega)]; simp
theorem valid_one {n x : Nat} (h0 : 0 < n) (hn : n ≤ 64) (hx : x < 2 ^ 64) (h : ∀ j, n ≤ j → x.testBit j = false) : Kb.validB n [x] = true := by
  refine (Kb.validB_iff (by intro y hy; simp at hy; omega)).2 ⟨by omega, by omega, ?_⟩
  rw [Int.toNat_natCast]
  refine ⟨by unfold Kb.nw; simp; omega, by intro y hy; simp at hy; omega, fun i hi => ?_⟩
  rw [bitAt_one x i hx]; exact h i hi
theorem shift_word {mem n : Nat} (hm : mem < 2 ^ 64) (hn : n ≤ 64) : IntKind.u64.wrap ((mem : Int) * 2 ^ (64 - n)) / 2 ^ (64 - n) = ((mem % 2 ^ n : Nat) : Int) := by
  have e : (2 : Nat) ^ 64 = 2 ^ n * 2 ^ (64 - n) := by rw [← Nat.pow_add]; congr 1; omega
  have h1 : (mem * 2 ^ (64 - n)) % 2 ^ 64 / 2 ^ (64 - n) = mem % 2 ^ n := by
    rw [e, Nat.mul_mod_mul_right, Nat.mul_div_cancel _ (Nat.two_pow_pos _)]
  rw [← h1, IntKind.wrap_u64, pow_natCast, ← Int.natCast_mul, show (18446744073709551616 : Int) = ((2 ^ 64 : Nat) : Int) from rfl, ← Int.natCast_emod, ← Int.natCast_ediv]
theorem mod_bit (mem n j : Nat) : (mem % 2 ^ n).testBit j = (decide (j < n) && mem.testBit j) := Nat.testBit_mod_two_pow _ _ _
/-- what the union of the parts below c has -/
def unB (f : Nat → Int) (b : Nat → Bool) (n c j : Nat) : Bool := decide (j < n) && (decide (0 ≤ f j ∧ f j < (c : Int)) && b j)
theorem un_and {f : Nat → Int} {b : Nat → Bool} {n c u y : Nat} (hu : ∀ j, u.testBit j = unB f b n c j) (hy : ∀ j, y.testBit j = (decide (j < n) && (f j == (c : Int) && b j))) : u &&& y = 0 := by
  apply Nat.eq_of_testBit_eq
  intro j
  rw [Nat.testBit_and, hu, hy, Nat.zero_testBit]
  unfold unB
  by_cases h : f j = (c : Int)
  · rw [show decide (0 ≤ f j ∧ f j < (c : Int)) = false by simp; omega]; simp
  · rw [show (f j == (c : Int)) = false by simpa using h]; simp
theorem un_or {f : Nat → Int} {b : Nat → Bool} {n c u y : Nat} (hu : ∀ j, u.testBit j = unB f b n c j) (hy : ∀ j, y.testBit j = (decide (j < n) && (f j == (c : Int) && b j))) (j : Nat) : (u ||| y).testBit j = unB f b n (c + 1) j := by
  rw [Nat.testBit_or, hu, hy]
  unfold unB
  by_cases h : f j = (c : Int)
  · rw [show decide (0 ≤ f j ∧ f j < (c : Int)) = false by simp; omega, show decide (0 ≤ f j ∧ f j < ((c + 1 : Nat) : Int)) = true by simp; omega, h]; simp
  · rw [show (f j == (c : Int)) = false by simpa using h, show decide (0 ≤ f j ∧ f j < ((c + 1 : Nat) : Int)) = decide (0 ≤ f j ∧ f j < (c : Int)) by rw [decide_eq_decide]; omega]; simp
theorem un_hit {f : Nat → Int} {b : Nat → Bool} {n c y : Nat} (hy : ∀ j, y.testBit j = (decide (j < n) && (f j == (c : Int) && b j))) : (y != 0) = hitB f b n c := by
  rw [Bool.eq_iff_iff, hitB_true]
  constructor
  · intro h
    apply Classical.byContradiction
    intro hn
    have : y = 0 := by
      apply Nat.eq_of_testBit_eq
      intro j
      rw [hy, Nat.zero_testBit]
      cases hb : decide (j < n) && (f j == (c : Int) && b j) with
      | false => rfl
      | true =>
        simp only [Bool.and_eq_true, decide_eq_true_eq, beq_iff_eq] at hb
        exact absurd ⟨j, hb.1, hb.2.1, hb.2.2⟩ hn
    rw [this] at h; simp at h
  · rintro ⟨i, h1, h2, h3⟩
    have h4 := hy i
    rw [h2, h3] at h4
    simp [h1] at h4
    cases e : y with
    | zero => rw [e] at h4; simp at h4
    | succ k => rfl
theorem un_end {f : Nat → Int} {n m u x : Nat} (hx : x < 2 ^ 64) (hu : ∀ j, u.testBit j = unB f (Kb.bitAt [x]) n m j) (hf : ∀ j, j < n → 0 ≤ f j ∧ f j < (m : Int)) (h : ∀ j, n ≤ j → x.testBit j = false) : u = x := by
  apply Nat.eq_of_testBit_eq
  intro j
  rw [hu]
  unfold unB
  rw [bitAt_one x j hx]
  by_cases hj : j < n
  · simp [hj, hf j hj]
  · rw [h j (by omega)]; simp
end Ks

/-- the law's world behind the set -/
structure PsInv (w wr : World) (A1 : Option Addr) (p : List Int) (b8 : Nat) (A8 : Option Addr) (c8 n : Nat) (ws : List Nat) : Prop where
  p : Ints wr wr.heap.size A1 p
  t : Two wr b8 (.int .i64 (n : Int)) (.slice A8 ws.length c8)
  W : Words wr wr.heap.size A8 ws
  bel : Below w.heap.size w wr
theorem PsInv.below {w wr wx : World} {A1 : Option Addr} {p : List Int} {b8 : Nat} {A8 : Option Addr} {c8 n : Nat} {ws : List Nat} (h : PsInv w wr A1 p b8 A8 c8 n ws) (hb : Below wr.heap.size wr wx) : PsInv w wx A1 p b8 A8 c8 n ws :=
  ⟨h.p.at hb, h.t.below hb h.t.lt, (h.W.below hb).more hb.size, h.bel.trans (hb.mono h.bel.size)⟩

set_option maxRecDepth 100000 in
set_option maxHeartbeats 4000000 in
theorem parts_walk (A : Option Addr) (ca : Nat) (zs : List Int) (mem drop : Nat) (w : World) (ha : Ints w w.heap.size A zs) (hca : zs.length ≤ ca) (hm : mem < 2 ^ 64) (hd : drop < 2 ^ 64) (ht : Tabs w) :
    Calls Tryd.prog 5 #[.slice A zs.length ca, .int .u64 (mem : Int), .int .u64 (drop : Int)] w fun e w' => e = .returned (.bool true) ∧ Below w.heap.size w w' := by
  obtain ⟨n, hn⟩ : ∃ n : Nat, n = min zs.length 64 := ⟨_, rfl⟩
  have hn1 : n ≤ zs.length := by omega
  have hn2 : n ≤ 64 := by omega
  have hmn : min (zs.length : Int) 64 = (n : Int) := by omega
  have hmn' : ∀ W : World, (Builtin.min_ #[3, 3] 3 #[.int .i64 (zs.length : Int), .int .i64 64]).run Tryd.prog W = .ok (.int .i64 (n : Int)) W := fun W => min2 _ _ _ hmn.symm _ _ W
  have hxa : (n : Int) ≤ (ca : Int) := by omega
  have hof : ∀ W : World, Ints W W.heap.size A zs → Calls Tryd.prog 19 #[.slice A n ca] W (IntsRes (Kp.ofL (zs.take n)) W) := fun W h => by
    have hlen : (zs.take n).length = n := by rw [List.length_take]; omega
    have := rof_any A ca (zs.take n) W (h.take n) (by omega)
    rw [hlen] at this
    exact this
  have HOF := Lib.hid hof
  have hvp : Hid (Kp.vB (Kp.ofL (zs.take n)) = true) := Lib.hid (Kp.vB_ofF _ _)
  have HL : Hid ((Kp.ofL (zs.take n)).length = n) := Lib.hid (by rw [Kp.ofL_length, List.length_take]; omega)
  clear hof hn hmn
  revert HOF hvp HL
  generalize Kp.ofL (zs.take n) = p
  intro HOF hvp HL
  have hbr : ∀ (A1 : Option Addr) (c1 : Nat) (B : Option Addr) (cb : Nat) (ws : List Nat) (W : World), Ints W W.heap.size A1 p → Words W W.heap.size B ws → Tabs W → Kb.validB n ws = true → Calls Tryd.prog 14 #[.slice A1 n c1, .agg #[.int .i64 (n : Int), .slice B ws.length cb]] W (BrRes (brZ p ws) 0 W) := fun A1 c1 B cb ws W h1 h2 h3 h4 => by
    have := branches_ok A1 c1 p n B cb ws W h1 h2 (by omega) (scode_ok hvp.out h4 (by rw [HL.out])) h3
    rw [HL.out] at this; exact this
  have HBR := Lib.hid hbr
  have hpt : ∀ (A1 : Option Addr) (c1 : Nat) (B : Option Addr) (cb : Nat) (ws : List Nat) (c : Nat) (W : World), Ints W W.heap.size A1 p → Words W W.heap.size B ws → Kb.validB n ws = true → c < Kp.cnt0 p → Calls Tryd.prog 16 #[.slice A1 n c1, .agg #[.int .i64 (n : Int), .slice B ws.length cb], .int .i64 (c : Int)] W (SetRes n (ptW p n ws c) W) := fun A1 c1 B cb ws c W h1 h2 h4 h5 => by
    have := part_ok A1 c1 p n B cb ws c W h1 h2 (by omega) (scode_ok hvp.out h4 (by rw [HL.out])) h5
    rw [HL.out] at this; exact this
  have HPT := Lib.hid hpt
  have hrc : ∀ (A1 : Option Addr) (c1 : Nat) (W : World), Ints W W.heap.size A1 p → Calls Tryd.prog 20 #[.slice A1 n c1] W fun e w' => e = .returned (.int .i64 (Kp.cnt0 p : Nat)) ∧ W = w' := fun A1 c1 W h1 => by
    have := rcount_any A1 c1 p W h1 (by rw [HL.out]; omega)
    rw [HL.out] at this; exact this
  have HRC := Lib.hid hrc
  clear hbr hpt hrc
  go_enter Tryd.func5, Tryd.ntmps5
  go_wp2_with fail
  refine (known_ok _).mono ?_
  rintro e w1 ⟨rfl, hb1⟩
  go_wp2_with fail
  refine (HOF.out _ (ha.at hb1)).mono ?_
  rintro e w2 ⟨A1, c1, rfl, hI, hb2⟩
  rw [HL.out]
  have B2 := bTrans hb1 hb2
  clear hb1 hb2 hmn' hxa
  by_cases hz : n = 0
  · have hp0 : Hid (brZ p [] = 0) := Lib.hid (by
      have h1 := brZ_le p []
      rw [HL.out] at h1; omega)
    obtain rfl : n = 0 := hz
    have hnz : ¬ (0 : Int) < ((0 : Nat) : Int) := by omega
    go_wp2_with fail
    have b3 : Below w2.heap.size w2 (w2.alloc (.cells #[.int .i64 0, .slice none 0 0] 24)) := al1 _ _
    refine (HBR.out A1 c1 none 0 [] _ (hI.at b3) (Words.nil _ _ _) (ht.below (bTrans B2 b3)) (by decide)).mono ?_
    rintro e w3 ⟨rfl, hb3⟩
    rw [hp0.out]
    go_wp2_with fail
    go_ret
    exact ⟨rfl, bTrans (bTrans B2 b3) hb3⟩
  · have hnz : (0 : Int) < (n : Int) := by omega
    have hn0 : 0 < n := by omega
    have e1 : IntKind.u64.wrap ((mem : Int) * 2 ^ (64 - n)) / 2 ^ (64 - n) = ((mem % 2 ^ n : Nat) : Int) := Ks.shift_word hm hn2
    have hx : mem % 2 ^ n < 2 ^ 64 := Nat.lt_of_le_of_lt (Nat.mod_le _ _) hm
    have hxb : Hid (∀ j, n ≤ j → (mem % 2 ^ n).testBit j = false) := Lib.hid fun j hj => by
      rw [Ks.mod_bit, show decide (j < n) = false by simp; omega]; rfl
    go_wp2_with fail
    rw [show (mem : Int) % 2 ^ n = ((mem % 2 ^ n : Nat) : Int) by rw [pow_natCast, ← Int.natCast_emod]]
    clear e1 hz hm
    revert hx hxb
    generalize mem % 2 ^ n = x0
    intro hx hxb
    have hval : Hid (Kb.validB n [x0] = true) := Lib.hid (Ks.valid_one hn0 hn2 hx hxb.out)
    have b3 : Below w2.heap.size w2 ((w2.alloc (.cells #[.int .i64 (n : Int), .slice (some ⟨w2.heap.size + 1, 0, none⟩) 1 1] 24)).alloc (.cells #[.int .u64 ((x0 : Nat) : Int)] 38)) := ((Below.refl _ _).alloc (Nat.le_refl _) _).alloc (by simp) _
    have K : PsInv w ((w2.alloc (.cells #[.int .i64 (n : Int), .slice (some ⟨w2.heap.size + 1, 0, none⟩) 1 1] 24)).alloc (.cells #[.int .u64 ((x0 : Nat) : Int)] 38)) A1 p w2.heap.size (some ⟨w2.heap.size + 1, 0, none⟩) 1 n [x0] := by
      refine ⟨hI.at b3, (Two.new_ _ _ _ _).alloc _, ?_, bTrans B2 b3⟩
      have h1 := WBlk.new_ (w2.alloc (.cells #[.int .i64 (n : Int), .slice (some ⟨w2.heap.size + 1, 0, none⟩) 1 1] 24)) [x0]
      rw [World.size_alloc] at h1
      have h2 := h1.words (B := ((w2.alloc (.cells #[.int .i64 (n : Int), .slice (some ⟨w2.heap.size + 1, 0, none⟩) 1 1] 24)).alloc (.cells (wcells [x0]) 38)).heap.size) (by simp) (by intro y hy; simp at hy; omega)
      exact h2
    clear b3 hI B2
    revert K
    generalize (w2.alloc (.cells #[.int .i64 (n : Int), .slice (some ⟨w2.heap.size + 1, 0, none⟩) 1 1] 24)).alloc (.cells #[.int .u64 ((x0 : Nat) : Int)] 38) = w3
    generalize w2.heap.size + 1 = g8
    generalize w2.heap.size = b8
    intro K
    refine (HBR.out A1 c1 (some ⟨g8, 0, none⟩) 1 [x0] _ K.p K.W (ht.below K.bel) hval.out).mono ?_
    rintro e w4 ⟨rfl, hb4⟩
    replace K := K.below hb4
    clear hb4
    obtain ⟨N, hN⟩ : ∃ N, Hid (brZ p [x0] = N) := ⟨_, Lib.hid rfl⟩
    rw [hN.out]
    have hnz2 : ((n : Int) == 0) = false := by simp; omega
    have hnz3 : (n == 0) = false := by simp; omega
    go_wp2_with fail
    refine (HRC.out A1 c1 _ K.p).mono ?_
    rintro e w5 ⟨rfl, rfl⟩
    obtain ⟨m, hmm⟩ : ∃ m, Hid (Kp.cnt0 p = m) := ⟨_, Lib.hid rfl⟩
    have hmle : m ≤ 64 := by have := Kp.cnt0_le p; rw [hmm.out, HL.out] at this; omega
    rw [hmm.out]
    go_wp2_with fail
    go_loopw [11, 12, 64] (fun uv rv cv wr => ∃ u r c : Nat, c ≤ m ∧ r ≤ c ∧ cv = .int .i64 c ∧ rv = .int .i64 r ∧ uv = .int .u64 u ∧ Hid (u < 2 ^ 64 ∧ ∀ j, u.testBit j = Ks.unB (Kp.lab p) (Kb.bitAt [x0]) n c j) ∧ Hid (r = Ks.brM (Ks.hitB (Kp.lab p) (Kb.bitAt [x0]) n) c) ∧ PsInv w wr A1 p b8 (some ⟨g8, 0, none⟩) 1 n [x0]) (fun _ _ cv _ => m - (intOf cv).toNat)
    case atStart =>
      refine ⟨0, 0, 0, Nat.zero_le _, Nat.le_refl _, rfl, rfl, rfl, Lib.hid ⟨by decide, fun j => ?_⟩, Lib.hid rfl, K⟩
      unfold Ks.unB
      rw [Nat.zero_testBit, show decide (0 ≤ Kp.lab p j ∧ Kp.lab p j < ((0 : Nat) : Int)) = false by simp <;> omega]; simp
    case round =>
      obtain ⟨u, r, c, hcm, hrc, rfl, rfl, rfl, hu, hr, K2⟩ := hrel
      clear K
      by_cases hlt : c < m
      · have hltI : (c : Int) < (m : Int) := by omega
        have c80 := K2.t.c0
        have c81 := K2.t.c1
        go_wp2_with fail
        refine (HPT.out A1 c1 (some ⟨g8, 0, none⟩) 1 [x0] c _ K2.p K2.W hval.out (by rw [hmm.out]; exact hlt)).mono ?_
        rintro e w6 ⟨A6, c6, rfl, hW6, hb6⟩
        obtain ⟨y, hy, hy64, hyb⟩ := Ks.one_word hn0 hn2 (fun j => Kp.lab p j == (c : Int) && Kb.bitAt [x0] j)
        have HY : Hid (∀ j, y.testBit j = (decide (j < n) && (Kp.lab p j == (c : Int) && Kb.bitAt [x0] j))) := Lib.hid hyb
        have hpy : ptW p n [x0] c = [y] := hy
        rw [hpy] at hW6 ⊢
        clear hy hyb hpy c80 c81
        have K3 := K2.below hb6
        clear K2
        obtain ⟨bw, ow, yv, rfl, hbw, hcw, hyv⟩ := hW6.at_ (k := 0) (by simp)
        have hyy : yv = y := by rw [hyv.out.1]; rfl
        subst hyy
        rw [Nat.add_zero] at hcw
        have c80 := K3.t.c0
        have c81 := K3.t.c1
        have cl := K3.t.lt
        have hand : bits BinOp.and IntKind.u64 (u : Int) (yv : Int) = 0 := by
          rw [u64_and_nat _ _ hu.out.1 hy64, Ks.un_and hu.out.2 HY.out]; rfl
        have hor : bits BinOp.or IntKind.u64 (u : Int) (yv : Int) = ((u ||| yv : Nat) : Int) := u64_or_nat _ _ hu.out.1 hy64
        have hnew : Hid ((u ||| yv) < 2 ^ 64 ∧ ∀ j, (u ||| yv).testBit j = Ks.unB (Kp.lab p) (Kb.bitAt [x0]) n (c + 1) j) := Lib.hid ⟨Nat.or_lt_two_pow hu.out.1 hy64, Ks.un_or hu.out.2 HY.out⟩
        have hcnt : Hid (Ks.brM (Ks.hitB (Kp.lab p) (Kb.bitAt [x0]) n) (c + 1) = Ks.brM (Ks.hitB (Kp.lab p) (Kb.bitAt [x0]) n) c + if (yv != 0) = true then 1 else 0) := Lib.hid (by rw [Ks.un_hit HY.out]; rfl)
        unfold setV
        cases hz2 : (yv != 0) with
        | true =>
          have hz3 : ((yv : Int) != 0) = true := by simpa using hz2
          rw [hz2] at hcnt
          have HZ2 := Lib.hid hz2
          clear hz2
          go_wp2_with fail
          go_roundw
          case rel => exact ⟨u ||| yv, r + 1, c + 1, by omega, by omega, by go_num, by go_num, rfl, hnew, Lib.hid (by rw [hcnt.out, ← hr.out]; rfl), K3.below (al1 _ _)⟩
          case measure => simp [intOf]; omega
        | false =>
          have hz3 : ((yv : Int) != 0) = false := by simpa using hz2
          rw [hz2] at hcnt
          have HZ2 := Lib.hid hz2
          clear hz2
          go_wp2_with fail
          go_roundw
          case rel => exact ⟨u ||| yv, r, c + 1, by omega, by omega, by go_num, rfl, rfl, hnew, Lib.hid (by rw [hcnt.out, ← hr.out]; rfl), K3.below (al1 _ _)⟩
          case measure => simp [intOf]; omega
      · obtain rfl : c = m := by omega
        have hltI : ¬ (c : Int) < (c : Int) := by omega
        have hux : u = x0 := Ks.un_end hx hu.out.2 (fun j hj => by
          have := Kp.valid_lt hvp.out (i := j) (by rw [HL.out]; exact hj)
          rw [← hmm.out]; unfold Kp.cnt0; rw [if_pos hvp.out]; exact this) hxb.out
        have hrN : (r : Int) = (N : Int) := by
          have : r = N := by rw [hr.out, ← hN.out]; unfold brZ; rw [hmm.out, HL.out]
          rw [this]
        have hrN' : r = N := by omega
        subst hux
        subst hrN'
        have c80 := K2.t.c0
        have c81 := K2.t.c1
        have cl := K2.t.lt
        obtain ⟨bw, ow, yv, hbwe, hbw, hcw, hyv⟩ := K2.W.at_ (k := 0) (by simp)
        injection hbwe with hbwe
        injection hbwe with h1 h2
        subst h1 h2
        have hyy : yv = u := by rw [hyv.out.1]; rfl
        subst hyy
        rw [Nat.add_zero] at hcw
        have hnot : bits BinOp.andNot IntKind.u64 (yv : Int) (drop : Int) = ((yv &&& (18446744073709551615 - drop) : Nat) : Int) := u64_andNot_nat yv drop hx hd
        have hz64 : (yv &&& (18446744073709551615 - drop)) < 2 ^ 64 := Nat.lt_of_le_of_lt Nat.and_le_left hx
        have hval2 : Hid (Kb.validB n [yv &&& (18446744073709551615 - drop)] = true) := Lib.hid (Ks.valid_one hn0 hn2 hz64 fun j hj => by rw [Nat.testBit_and, hxb.out j hj]; rfl)
        have hle : Hid (brZ p [yv &&& (18446744073709551615 - drop)] ≤ r) := Lib.hid (by
          rw [← hN.out]
          unfold brZ
          refine Ks.brM_mono fun d _ hd2 => Ks.hitB_mono (fun i _ hi => ?_) hd2
          rw [Ks.bitAt_one _ _ hz64, Nat.testBit_and, Bool.and_eq_true] at hi
          rw [Ks.bitAt_one _ _ hx]; exact hi.1)
        revert hnot hz64 hval2 hle
        generalize (yv &&& (18446744073709551615 - drop)) = z
        intro hnot hz64 hval2 hle
        go_wp2_with fail
        have b9 := al1 wr (.cells #[.int .u64 ((z : Nat) : Int)] 38)
        have K9 := K2.below b9
        have hWz : Words (wr.alloc (.cells #[.int .u64 ((z : Nat) : Int)] 38)) (wr.alloc (.cells #[.int .u64 ((z : Nat) : Int)] 38)).heap.size (some ⟨wr.heap.size, 0, none⟩) [z] := (WBlk.new_ wr [z]).words (B := (wr.alloc (.cells (wcells [z]) 38)).heap.size) (by simp) (by intro y hy; simp at hy; omega)
        refine (HBR.out A1 c1 (some ⟨wr.heap.size, 0, none⟩) 1 [z] _ K9.p hWz (ht.below K9.bel) hval2.out).mono ?_
        rintro e w7 ⟨rfl, hb7⟩
        have K7 := K9.below hb7
        clear c80 c81 cl hcw
        have c80 := K7.t.c0
        have c81 := K7.t.c1
        obtain ⟨bw, ow, yw, hbwe, hbw7, hcw7, hyv7⟩ := K7.W.at_ (k := 0) (by simp)
        injection hbwe with hbwe
        injection hbwe with h1 h2
        subst h1 h2
        have hyy : yw = yv := by rw [hyv7.out.1]; rfl
        subst hyy
        rw [Nat.add_zero] at hcw7
        have hleI : ((brZ p [z] : Nat) : Int) ≤ (r : Int) := by have := hle.out; omega
        go_wp2_with fail
        go_ret
        exact ⟨rfl, K7.bel⟩
end Go.Proofs.YtcicejmahlobhaaDoor
