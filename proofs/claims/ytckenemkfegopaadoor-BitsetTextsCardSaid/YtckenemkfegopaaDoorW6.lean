/- Walks: OnesCount64 (a bound), Count, Complement. -/
import Derived.Test.YtckenemkfegopaaDoorW5
import Derived.Lib.TrailingZeros
namespace Go.Proofs.YtckenemkfegopaaDoor
open Go.RowKit
set_option linter.unusedVariables false

theorem and127 (a : Int) : ∃ n : Nat, n ≤ 127 ∧ bits BinOp.and .i64 a 127 = (n : Int) := by
  refine ⟨(BitVec.ofInt 64 a &&& 127#64).toNat, ?_, ?_⟩
  · rw [BitVec.toNat_and]
    exact Nat.and_le_right
  · have h : (BitVec.ofInt 64 a &&& 127#64).toNat ≤ 127 := by rw [BitVec.toNat_and]; exact Nat.and_le_right
    show IntKind.i64.wrap ((BitVec.ofInt 64 a &&& BitVec.ofInt 64 127).toNat : Int) = _
    rw [show BitVec.ofInt 64 127 = 127#64 from rfl, IntKind.wrap_i64]
    omega

set_option maxRecDepth 100000 in
set_option maxHeartbeats 400000 in
theorem ones_any (x : Nat) (hx : x < 2 ^ 64) (w : World) :
    Calls Tryd.prog 158 #[.int .u64 (x : Int)] w fun e w' => ∃ n : Nat, n ≤ 127 ∧ e = .returned (.int .i64 (n : Int)) ∧ w = w' := by
  go_enter Tryd.func158, Tryd.ntmps158
  go_wp2_with fail
  go_ret
  obtain ⟨n, h1, h2⟩ := and127 _
  exact ⟨n, h1, ret_int h2, rfl⟩

theorem not_u64 (x : Nat) (hx : x < 2 ^ 64) : bits BinOp.xor IntKind.u64 (if IntKind.u64.signed = true then -1 else IntKind.u64.max) (x : Int) = ((18446744073709551615 - x : Nat) : Int) := by
  have e : (if IntKind.u64.signed = true then (-1 : Int) else IntKind.u64.max) = ((18446744073709551615 : Nat) : Int) := by decide
  rw [e, u64_xor_nat _ _ (by decide) hx]
  congr 1
  apply Nat.eq_of_testBit_eq
  intro j
  rw [Nat.testBit_xor, Kb.not_testBit _ _ hx, show (18446744073709551615 : Nat) = 2 ^ 64 - 1 from rfl, Nat.testBit_two_pow_sub_one]
  by_cases h : j < 64
  · simp [h]
  · rw [Kb.testBit_ge hx (by omega)]; simp [h]

theorem co_end {w wr : World} {g b n m : Nat} {vs : List Nat} {u v : Value} (hr : WBlk wr g vs) (hg : b < g) (hb : Below w.heap.size w wr) (hm : vs.length = m) (hlt : ∀ x ∈ vs, x < 2 ^ 64) (hbw : w.heap.size ≤ b) :
    SetRes n vs w (.returned (.tuple #[setV (n : Int) (some ⟨g, 0, none⟩) m m, .int .i64 0])) ((wr.setCell ⟨b, 0, none⟩ u).setCell ⟨b, 1, none⟩ v) := by
  have hrow := (hr.far (p := ⟨b, 0, none⟩) (by simp; omega) u).far (p := ⟨b, 1, none⟩) (by simp; omega) v
  exact ⟨some ⟨g, 0, none⟩, m, by rw [hm], hrow.words hrow.lt hlt, (hb.setCell (p := ⟨b, 0, none⟩) hbw _).setCell (p := ⟨b, 1, none⟩) hbw _⟩

theorem and_mask (y k : Nat) (hy : y < 2 ^ 64) (hk : k < 64) : bits BinOp.and IntKind.u64 (y : Int) (IntKind.u64.wrap (IntKind.u64.wrap (2 ^ k) - 1)) = ((y &&& (2 ^ k - 1) : Nat) : Int) := by
  have hp : (2 : Nat) ^ k < 2 ^ 64 := Nat.pow_lt_pow_right (by omega) hk
  have h1 := Nat.two_pow_pos k
  rw [pow_natCast, wrap_nat hp, show ((2 ^ k : Nat) : Int) - 1 = ((2 ^ k - 1 : Nat) : Int) by omega, wrap_nat (by omega)]
  exact u64_and_nat y _ hy (by omega)

/-- Complement's world in the loop -/
structure CoInv (w wr : World) (g : Nat) (x1 y1 x2 y2 : Value) (vs : List Nat) : Prop where
  t1 : Two wr w.heap.size x1 y1
  t2 : Two wr (w.heap.size + 1) x2 y2
  row : WBlk wr g vs
  hg : w.heap.size + 1 < g
  bel : Below w.heap.size w wr

set_option maxRecDepth 100000 in
set_option maxHeartbeats 400000 in
theorem compl_ok (n : Nat) (A : Option Addr) (c : Nat) (ws : List Nat) (w : World) (h : Words w w.heap.size A ws) (hok : Kb.Ok n ws) (hn : n ≤ 4096) :
    Calls Tryd.prog 89 #[setV n A ws.length c] w (SetRes n (Kb.mkWords n (fun j => !Kb.bitAt ws j)) w) := by
  have hl : ws.length ≤ 64 := by rw [hok.len]; unfold Kb.nw; omega
  have hv : Hid (Kb.validB n ws = true) := Lib.hid ((Kb.validB_iff h.lt).2 ⟨by omega, by omega, hok⟩)
  have hmk := makeWords ws.length (by omega)
  unfold setV
  go_enter Tryd.func89, Tryd.ntmps89
  go_wp2_with fail
  have hX := (h.alloc (Nat.le_refl _) (.cells #[.int .i64 (n : Int), .slice A ws.length c] 46)).alloc (by simp) (.cells #[.int .i64 0, .slice none 0 0] 46)
  refine (bvalid_any n A c ws _ (hX.more (by simp; omega)) (by omega)).mono ?_
  rintro e w1 ⟨rfl, hb⟩
  rw [hv.out]
  have t1 : Two w1 w.heap.size (.int .i64 (n : Int)) (.slice A ws.length c) := ((Two.new_ _ _ _ _).alloc _).below hb (by simp; omega)
  have t2 : Two w1 (w.heap.size + 1) (.int .i64 0) (.slice none 0 0) := by simpa using (Two.new_ (w.alloc (.cells #[.int .i64 (n : Int), .slice A ws.length c] 46)) _ _ _).below hb (by simp)
  have hz : w.heap.size + 1 < w1.heap.size := by have := hb.size; simp at this; omega
  have hB : Below w.heap.size w w1 := ((((Below.refl _ _).alloc (Nat.le_refl _) _).alloc (by simp) _)).trans (hb.mono (by simp; omega))
  have c10 := t1.c0
  have c11 := t1.c1
  go_wp2_with fail
  go_loopw [17] (fun i wr => ∃ k : Nat, k ≤ ws.length ∧ i = .int .i64 k ∧ CoInv w wr w1.heap.size (.int .i64 (n : Int)) (.slice A ws.length c) (.int .i64 0) (.slice none 0 0) (Kb.fill ws.length k (fun i => 18446744073709551615 - ws.getD i 0))) (fun i _ => ws.length - (intOf i).toNat)
  case atStart => exact ⟨0, Nat.zero_le _, rfl, t1.alloc _, t2.alloc _, by rw [Kb.fill_zero]; exact WBlk.new_ _ _, hz, hB.alloc (by omega) _⟩
  case round =>
    obtain ⟨k, hk, rfl, hinv⟩ := hrel
    clear c10 c11
    have c10 := hinv.t1.c0
    have c11 := hinv.t1.c1
    by_cases hlt : k < ws.length
    · obtain ⟨b, off, x, rfl, hbb, hc, hx⟩ := (h.below hinv.bel).at_ hlt
      have hcg := hinv.row.cell (k := k) (by rw [Kb.fill_length]; exact hlt)
      have hfg := hinv.row.frozen k
      go_wp2_with fail
      go_roundw
      case rel =>
        rw [not_u64 x hx.out.2]
        refine ⟨k + 1, by omega, by go_num, hinv.t1.far (by have := hinv.hg; simp; omega) _, hinv.t2.far (by have := hinv.hg; simp; omega) _, ?_, hinv.hg, hinv.bel.setCell (Nat.le_of_lt (by have := hinv.hg; simp; omega)) _⟩
        have e : 18446744073709551615 - x = (fun i => 18446744073709551615 - ws.getD i 0) k := by show _ = 18446744073709551615 - ws.getD k 0; rw [← hx.out.1]
        rw [e, ← Kb.fill_set _ _ _ hlt]
        exact hinv.row.set_ _ _
      case measure => simp [intOf]; omega
    · have hkl : k = ws.length := by omega
      subst hkl
      have c20 := hinv.t2.c0
      have c21 := hinv.t2.c1
      have f20 := hinv.t2.fr 0
      have f21 := hinv.t2.fr 1
      by_cases hu : n % 64 = 0
      · have hu1 : ((n : Int) % 64 != 0) = false := by simp; omega
        have hU := Lib.hid hu
        clear hu
        go_wp2_with fail
        obtain ⟨r0, r1⟩ := two_set wr (.int .i64 (n : Int)) (.slice (some ⟨w1.heap.size, 0, none⟩) ws.length ws.length) c20 c21
        refine bodyPost_ret (v := .tuple #[setV (n : Int) (some ⟨w1.heap.size, 0, none⟩) ws.length ws.length, .int .i64 0]) (by simp [results, Tryd.results89, go_sem, r0, r1, setV]) rfl ?_
        have hr := hinv.row
        have hm : Kb.fill ws.length ws.length (fun i => 18446744073709551615 - ws.getD i 0) = Kb.mkWords n (fun j => !Kb.bitAt ws j) := by rw [hok.len]; exact Kb.compl_full hok hU.out
        rw [hm] at hr
        exact co_end hr hinv.hg hinv.bel (by rw [Kb.mkWords_length, hok.len]) (Kb.mkWords_lt n _) (by omega)
      · have hu1 : ((n : Int) % 64 != 0) = true := by simp; omega
        have hlen0 : 0 < ws.length := by rw [hok.len]; unfold Kb.nw; omega
        have hU := Lib.hid hu
        clear hu
        have hcg := hinv.row.cell (k := ws.length - 1) (by rw [Kb.fill_length]; omega)
        have hfg := hinv.row.frozen (ws.length - 1)
        rw [Kb.fill_getD _ _ _ _ (by omega), if_pos (by omega)] at hcg
        obtain ⟨y, hy⟩ : ∃ y : Nat, Hid (y = 18446744073709551615 - ws.getD (ws.length - 1) 0) := ⟨_, Lib.hid rfl⟩
        rw [← hy.out] at hcg
        have e1 : ((ws.length : Int) - 1).toNat = ws.length - 1 := by omega
        have e2 : (0 : Int) ≤ (n : Int) % 64 := by omega
        have e3 : (n : Int) % 64 ≤ 64 := by omega
        go_wp2_with fail
        go_region
        rw [and_mask y (n % 64) (by rw [hy.out]; omega) (Nat.mod_lt _ (by decide))]
        have hinv' : CoInv w (wr.setCell ⟨w1.heap.size, ws.length - 1, none⟩ (.int .u64 ((y &&& (2 ^ (n % 64) - 1) : Nat) : Int))).drew w1.heap.size (.int .i64 (n : Int)) (.slice A ws.length c) (.int .i64 0) (.slice none 0 0) (Kb.mkWords n (fun j => !Kb.bitAt ws j)) := by
          have hm := Kb.compl_masked hok hU.out
          rw [← hok.len, ← hy.out] at hm
          rw [← hm]
          exact ⟨(hinv.t1.far (by have := hinv.hg; simp; omega) _).drew, (hinv.t2.far (by have := hinv.hg; simp; omega) _).drew, (hinv.row.set_ _ _).drew, hinv.hg, (hinv.bel.setCell (Nat.le_of_lt (by have := hinv.hg; simp; omega)) _).drew⟩
        clear hcg hfg c20 c21 f20 f21 c10 c11 hinv
        revert hinv'
        generalize (wr.setCell ⟨w1.heap.size, ws.length - 1, none⟩ (.int .u64 ((y &&& (2 ^ (n % 64) - 1) : Nat) : Int))).drew = wx
        intro hinv
        have c10 := hinv.t1.c0
        have c20 := hinv.t2.c0
        have c21 := hinv.t2.c1
        have f20 := hinv.t2.fr 0
        have f21 := hinv.t2.fr 1
        go_wp2_with fail
        obtain ⟨r0, r1⟩ := two_set wx (.int .i64 (n : Int)) (.slice (some ⟨w1.heap.size, 0, none⟩) ws.length ws.length) c20 c21
        refine bodyPost_ret (v := .tuple #[setV (n : Int) (some ⟨w1.heap.size, 0, none⟩) ws.length ws.length, .int .i64 0]) (by simp [results, Tryd.results89, go_sem, r0, r1, setV]) rfl ?_
        exact co_end hinv.row hinv.hg hinv.bel (by rw [Kb.mkWords_length, hok.len]) (Kb.mkWords_lt n _) (by omega)
end Go.Proofs.YtckenemkfegopaaDoor
