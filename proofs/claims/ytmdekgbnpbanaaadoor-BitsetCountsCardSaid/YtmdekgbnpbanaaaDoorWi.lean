/- Walks: With, Without. -/
import Derived.Test.YtmdekgbnpbanaaaDoorWh
namespace Go.Proofs.YtmdekgbnpbanaaaDoor
open Go.RowKit
set_option linter.unusedVariables false

theorem andNot_pow (x k : Nat) (hx : x < 2 ^ 64) (hk : k < 64) : bits BinOp.andNot IntKind.u64 (x : Int) (IntKind.u64.wrap (2 ^ k)) = ((x &&& (18446744073709551615 - 2 ^ k) : Nat) : Int) := by
  have hp : (2 : Nat) ^ k < 2 ^ 64 := Nat.pow_lt_pow_right (by omega) hk
  rw [pow_natCast, wrap_nat hp]
  exact andNot_bits hx hp

/-- behind With's store -/
structure WtInv (w wr : World) (b6 g : Nat) (n m : Nat) (ws : List Nat) : Prop where
  t2 : Two wr (w.heap.size + 1) (.int .i64 0) (.slice none 0 0)
  t6 : Two wr b6 (.int .i64 (n : Int)) (.slice (some ⟨g, 0, none⟩) m m)
  row : WBlk wr g ws
  bel : Below w.heap.size w wr
  hg : w.heap.size + 1 < g
  h6 : b6 ≠ g

set_option maxRecDepth 100000 in
theorem with_bad (sa : Int) (A : Option Addr) (c : Nat) (ws : List Nat) (i code : Int) (w : World) (hcode : (code != 0) = true)
    (hcall : ∀ W, Below w.heap.size w W → Calls Tryd.prog 51 #[setV sa A ws.length c, .int .i64 i] W (ErrRes code W)) :
    Calls Tryd.prog 21 #[setV sa A ws.length c, .int .i64 i] w (ErrRes code w) := by
  have HC := Lib.hid hcall
  clear hcall
  unfold setV
  go_enter Tryd.func21, Tryd.ntmps21
  go_wp2_with fail
  have i1 := WiInv.new_ w (.int .i64 sa) (.slice A ws.length c) (.int .i64 0) (.slice none 0 0) 24 24
  refine (HC.out _ i1.bel).mono ?_
  rintro e w1 ⟨rfl, hb1⟩
  have i2 := i1.below hb1
  have d10 := i2.t2.c0
  have d11 := i2.t2.c1
  have f10 := i2.t2.fr 0
  have f11 := i2.t2.fr 1
  have hz2 := i2.t2.lt
  unfold setV
  go_wp2_with fail
  have tp := (i2.t2.put (.int .i64 0) (.slice none 0 0)).alloc (.cells #[.int .i64 0, .slice none 0 0] 24)
  have r0 := tp.c0
  have r1 := tp.c1
  refine bodyPost_ret (v := .tuple #[setV 0 none 0 0, .int .i64 code]) (by simp [results, Tryd.results21, go_sem, r0, r1, setV]) rfl ?_
  exact ⟨rfl, ((i2.bel.setCell (p := ⟨w.heap.size + 1, 0, none⟩) (by simp) _).setCell (p := ⟨w.heap.size + 1, 1, none⟩) (by simp) _).alloc (by have := i2.bel.size; simp [World.setCell]; omega) _⟩

set_option maxRecDepth 100000 in
set_option maxHeartbeats 1000000 in
theorem with_ok (n : Nat) (A : Option Addr) (c : Nat) (ws : List Nat) (i : Nat) (w : World) (h : Words w w.heap.size A ws) (hok : Kb.Ok n ws) (hn : n ≤ 4096) (hi : i < n) :
    Calls Tryd.prog 21 #[setV n A ws.length c, .int .i64 (i : Int)] w (SetRes n (Kb.mkWords n (fun j => j == i || Kb.bitAt ws j)) w) := by
  have hl : ws.length ≤ 64 := by rw [hok.len]; unfold Kb.nw; omega
  have hi64 : i / 64 < ws.length := by rw [hok.len]; unfold Kb.nw; omega
  unfold setV
  go_enter Tryd.func21, Tryd.ntmps21
  go_wp2_with fail
  have i1 := WiInv.new_ w (.int .i64 (n : Int)) (.slice A ws.length c) (.int .i64 0) (.slice none 0 0) 24 24
  refine (copyWith_ok n A c ws i _ ((h.below i1.bel).more i1.bel.size) hok hn hi).mono ?_
  rintro e w1 ⟨g, hg, rfl, hblk, hb1⟩
  have i2 := i1.below hb1
  have hg2 : w.heap.size + 1 < g := by simp at hg; omega
  have hgl : g < w1.heap.size := hblk.lt
  clear i1 hb1 hg
  have hcx := hblk.cell hi64
  have hfx := hblk.frozen (i / 64)
  obtain ⟨x, hX⟩ : ∃ x : Nat, Hid (x = ws.getD (i / 64) 0 ∧ x < 2 ^ 64) := ⟨_, Lib.hid ⟨rfl, hok.get_lt _⟩⟩
  rw [← hX.out.1] at hcx
  have e1 : IntKind.i64.wrap ((i : Int) / 64) = (i : Int) / 64 := IntWalk.i64_in _ (by omega)
  have e2 : ((i : Int)).tmod 64 = (i : Int) % 64 := Int.tmod_eq_emod_of_nonneg (by omega)
  have e3 : ((i : Int) / 64).toNat = i / 64 := by omega
  have e4 : (i : Int) / 64 < (ws.length : Int) := by omega
  have e5 : (0 : Int) ≤ (i : Int) / 64 := by omega
  unfold setV
  go_wp2_with fail
  go_region
  rw [or_pow x (i % 64) hX.out.2 (Nat.mod_lt _ (by decide))]
  have hinv : WtInv w (((w1.setCell ⟨g, i / 64, none⟩ (.int .u64 ((x ||| 2 ^ (i % 64) : Nat) : Int))).alloc (.cells #[.int .i64 (n : Int), .slice (some ⟨g, 0, none⟩) ws.length ws.length] 24)).drew) w1.heap.size g n ws.length (Kb.mkWords n (fun j => j == i || Kb.bitAt ws j)) := by
    have t6' := Two.new_ (w1.setCell ⟨g, i / 64, none⟩ (.int .u64 ((x ||| 2 ^ (i % 64) : Nat) : Int))) (.int .i64 (n : Int)) (.slice (some ⟨g, 0, none⟩) ws.length ws.length) 24
    have es : (w1.setCell ⟨g, i / 64, none⟩ (.int .u64 ((x ||| 2 ^ (i % 64) : Nat) : Int))).heap.size = w1.heap.size := by simp [World.setCell]
    rw [es] at t6'
    refine ⟨((i2.t2.far (by simp; omega) _).alloc _).drew, t6'.drew, ?_, ((i2.bel.setCell (by simp; omega) _).alloc (by rw [es]; exact i2.bel.size) _).drew, hg2, by omega⟩
    have hs := Kb.set_or hok i hi
    rw [← hX.out.1] at hs
    rw [← hs]
    exact ((hblk.set_ _ _).alloc _).drew
  clear hcx hfx i2 hblk
  revert hinv
  generalize (((w1.setCell ⟨g, i / 64, none⟩ (.int .u64 ((x ||| 2 ^ (i % 64) : Nat) : Int))).alloc (.cells #[.int .i64 (n : Int), .slice (some ⟨g, 0, none⟩) ws.length ws.length] 24)).drew) = wx
  intro hinv
  have d10 := hinv.t2.c0
  have d11 := hinv.t2.c1
  have f10 := hinv.t2.fr 0
  have f11 := hinv.t2.fr 1
  have c10 := hinv.t6.c0
  have c11 := hinv.t6.c1
  go_wp2_with fail
  obtain ⟨r0, r1⟩ := two_set wx (.int .i64 (n : Int)) (.slice (some ⟨g, 0, none⟩) ws.length ws.length) d10 d11
  refine bodyPost_ret (v := .tuple #[setV n (some ⟨g, 0, none⟩) ws.length ws.length, .int .i64 0]) (by simp [results, Tryd.results21, go_sem, r0, r1, setV]) rfl ?_
  exact co_end hinv.row hinv.hg hinv.bel (by rw [Kb.mkWords_length, hok.len]) (Kb.mkWords_lt n _) (by omega)

set_option maxRecDepth 100000 in
theorem without_bad (sa : Int) (A : Option Addr) (c : Nat) (ws : List Nat) (i code : Int) (w : World) (hcode : (code != 0) = true)
    (hcall : ∀ W, Below w.heap.size w W → Calls Tryd.prog 51 #[setV sa A ws.length c, .int .i64 i] W (ErrRes code W)) :
    Calls Tryd.prog 22 #[setV sa A ws.length c, .int .i64 i] w (ErrRes code w) := by
  have HC := Lib.hid hcall
  clear hcall
  unfold setV
  go_enter Tryd.func22, Tryd.ntmps22
  go_wp2_with fail
  have i1 := WiInv.new_ w (.int .i64 sa) (.slice A ws.length c) (.int .i64 0) (.slice none 0 0) 24 24
  refine (HC.out _ i1.bel).mono ?_
  rintro e w1 ⟨rfl, hb1⟩
  have i2 := i1.below hb1
  have d10 := i2.t2.c0
  have d11 := i2.t2.c1
  have f10 := i2.t2.fr 0
  have f11 := i2.t2.fr 1
  have hz2 := i2.t2.lt
  unfold setV
  go_wp2_with fail
  have tp := (i2.t2.put (.int .i64 0) (.slice none 0 0)).alloc (.cells #[.int .i64 0, .slice none 0 0] 24)
  have r0 := tp.c0
  have r1 := tp.c1
  refine bodyPost_ret (v := .tuple #[setV 0 none 0 0, .int .i64 code]) (by simp [results, Tryd.results22, go_sem, r0, r1, setV]) rfl ?_
  exact ⟨rfl, ((i2.bel.setCell (p := ⟨w.heap.size + 1, 0, none⟩) (by simp) _).setCell (p := ⟨w.heap.size + 1, 1, none⟩) (by simp) _).alloc (by have := i2.bel.size; simp [World.setCell]; omega) _⟩

set_option maxRecDepth 100000 in
set_option maxHeartbeats 1000000 in
theorem without_ok (n : Nat) (A : Option Addr) (c : Nat) (ws : List Nat) (i : Nat) (w : World) (h : Words w w.heap.size A ws) (hok : Kb.Ok n ws) (hn : n ≤ 4096) (hi : i < n) :
    Calls Tryd.prog 22 #[setV n A ws.length c, .int .i64 (i : Int)] w (SetRes n (Kb.mkWords n (fun j => j != i && Kb.bitAt ws j)) w) := by
  have hl : ws.length ≤ 64 := by rw [hok.len]; unfold Kb.nw; omega
  have hi64 : i / 64 < ws.length := by rw [hok.len]; unfold Kb.nw; omega
  unfold setV
  go_enter Tryd.func22, Tryd.ntmps22
  go_wp2_with fail
  have i1 := WiInv.new_ w (.int .i64 (n : Int)) (.slice A ws.length c) (.int .i64 0) (.slice none 0 0) 24 24
  refine (copyWith_ok n A c ws i _ ((h.below i1.bel).more i1.bel.size) hok hn hi).mono ?_
  rintro e w1 ⟨g, hg, rfl, hblk, hb1⟩
  have i2 := i1.below hb1
  have hg2 : w.heap.size + 1 < g := by simp at hg; omega
  have hgl : g < w1.heap.size := hblk.lt
  clear i1 hb1 hg
  have hcx := hblk.cell hi64
  have hfx := hblk.frozen (i / 64)
  obtain ⟨x, hX⟩ : ∃ x : Nat, Hid (x = ws.getD (i / 64) 0 ∧ x < 2 ^ 64) := ⟨_, Lib.hid ⟨rfl, hok.get_lt _⟩⟩
  rw [← hX.out.1] at hcx
  have e1 : IntKind.i64.wrap ((i : Int) / 64) = (i : Int) / 64 := IntWalk.i64_in _ (by omega)
  have e2 : ((i : Int)).tmod 64 = (i : Int) % 64 := Int.tmod_eq_emod_of_nonneg (by omega)
  have e3 : ((i : Int) / 64).toNat = i / 64 := by omega
  have e4 : (i : Int) / 64 < (ws.length : Int) := by omega
  have e5 : (0 : Int) ≤ (i : Int) / 64 := by omega
  unfold setV
  go_wp2_with fail
  go_region
  rw [andNot_pow x (i % 64) hX.out.2 (Nat.mod_lt _ (by decide))]
  have hinv : WtInv w (((w1.setCell ⟨g, i / 64, none⟩ (.int .u64 ((x &&& (18446744073709551615 - 2 ^ (i % 64)) : Nat) : Int))).alloc (.cells #[.int .i64 (n : Int), .slice (some ⟨g, 0, none⟩) ws.length ws.length] 24)).drew) w1.heap.size g n ws.length (Kb.mkWords n (fun j => j != i && Kb.bitAt ws j)) := by
    have t6' := Two.new_ (w1.setCell ⟨g, i / 64, none⟩ (.int .u64 ((x &&& (18446744073709551615 - 2 ^ (i % 64)) : Nat) : Int))) (.int .i64 (n : Int)) (.slice (some ⟨g, 0, none⟩) ws.length ws.length) 24
    have es : (w1.setCell ⟨g, i / 64, none⟩ (.int .u64 ((x &&& (18446744073709551615 - 2 ^ (i % 64)) : Nat) : Int))).heap.size = w1.heap.size := by simp [World.setCell]
    rw [es] at t6'
    refine ⟨((i2.t2.far (by simp; omega) _).alloc _).drew, t6'.drew, ?_, ((i2.bel.setCell (by simp; omega) _).alloc (by rw [es]; exact i2.bel.size) _).drew, hg2, by omega⟩
    have hs := Kb.set_andNot hok i hi
    rw [← hX.out.1] at hs
    rw [← hs]
    exact ((hblk.set_ _ _).alloc _).drew
  clear hcx hfx i2 hblk
  revert hinv
  generalize (((w1.setCell ⟨g, i / 64, none⟩ (.int .u64 ((x &&& (18446744073709551615 - 2 ^ (i % 64)) : Nat) : Int))).alloc (.cells #[.int .i64 (n : Int), .slice (some ⟨g, 0, none⟩) ws.length ws.length] 24)).drew) = wx
  intro hinv
  have d10 := hinv.t2.c0
  have d11 := hinv.t2.c1
  have f10 := hinv.t2.fr 0
  have f11 := hinv.t2.fr 1
  have c10 := hinv.t6.c0
  have c11 := hinv.t6.c1
  go_wp2_with fail
  obtain ⟨r0, r1⟩ := two_set wx (.int .i64 (n : Int)) (.slice (some ⟨g, 0, none⟩) ws.length ws.length) d10 d11
  refine bodyPost_ret (v := .tuple #[setV n (some ⟨g, 0, none⟩) ws.length ws.length, .int .i64 0]) (by simp [results, Tryd.results22, go_sem, r0, r1, setV]) rfl ?_
  exact co_end hinv.row hinv.hg hinv.bel (by rw [Kb.mkWords_length, hok.len]) (Kb.mkWords_lt n _) (by omega)
end Go.Proofs.YtmdekgbnpbanaaaDoor
