/- Walks: pairUp, trimPairs. -/
import Derived.Test.YtmhfdmidaheoeaaDoorT2
import Derived.Test.YtmhfdmidaheoeaaDoorMath3
import Derived.BigRegion
namespace Go.Proofs.YtmhfdmidaheoeaaDoor
open Go.RowKit
set_option linter.unusedVariables false

theorem infoU64 : (Tryd.prog.info? 48).map (fun i => (i.zero, i.size, i.bytes)) = some (some (.int .u64 0), 1, 8) := by kernel_rfl
theorem makeU64 (n : Nat) (hn : n ≤ 1000000000) (z : Int) (hz : z = (n : Int)) (W : World) : (Instr.makeSlice 57 (.int .i64 z) (.int .i64 z)).run Tryd.prog W = .ok (.slice (some ⟨W.heap.size, 0, none⟩) n n) (W.alloc (.cells (ncells .u64 (List.replicate n 0)) 48)) := by
  subst hz
  obtain ⟨i, hi, hzz⟩ := Option.map_eq_some_iff.1 infoU64
  simp only [Prod.mk.injEq] at hzz
  have h := run_make (P := Tryd.prog) W 57 48 i (.int .u64 0) Tryd.underlying57 hi hzz.1 .i64 .i64 n n (by omega) (by omega) (by rw [hzz.2.2]; omega) (by omega)
  rw [hzz.2.1, show (Value.int .u64 0).cells = #[.int .u64 0] from rfl] at h
  rw [← ncells_made]
  simpa using h

def W64 (l : List Nat) : Prop := ∀ k, l.getD k 0 < 18446744073709551616
theorem W64.set {l : List Nat} (h : W64 l) {k x : Nat} (hk : k < l.length) (hx : x < 18446744073709551616) : W64 (l.set k x) := fun j => by
  rw [Kn.getD_set _ _ _ _ hk]; split
  · exact hx
  · exact h j
/-- a block of pairs of words -/
structure Fill6 (w wr : World) (g n : Nat) (ps : List Nat) : Prop where
  row : Blk .u64 48 wr g ps
  len : ps.length = n
  wd : W64 ps
  bel : Below w.heap.size w wr
  hg : w.heap.size ≤ g
section
variable {w wr wx : World} {g n : Nat} {ps : List Nat}
theorem Fill6.put (h : Fill6 w wr g n ps) (k : Nat) (hk : k < n) {x : Nat} (hx : x < 18446744073709551616) : Fill6 w (wr.setCell ⟨g, k, none⟩ (.int .u64 (x : Int))) g n (ps.set k x) :=
  ⟨h.row.set_ k x, by rw [List.length_set]; exact h.len, h.wd.set (by have := h.len; omega) hx, h.bel.setCell (p := ⟨g, k, none⟩) h.hg _, h.hg⟩
theorem Fill6.drew (h : Fill6 w wr g n ps) : Fill6 w wr.drew g n ps := ⟨h.row.drew, h.len, h.wd, bDrew1 h.bel, h.hg⟩
theorem Fill6.drewN (h : Fill6 w wr g n ps) (q : Nat) : Fill6 w (wr.drewN q) g n ps := ⟨h.row.drewN q, h.len, h.wd, bDrew h.bel q, h.hg⟩
theorem Fill6.new_ (w : World) (n : Nat) : Fill6 w (w.alloc (.cells (ncells .u64 (List.replicate n 0)) 48)) w.heap.size n (List.replicate n 0) :=
  ⟨Blk.new_ _ _ _ _, by simp, fun k => by rw [List.getD_eq_getElem?_getD, List.getElem?_replicate]; split <;> simp, (Below.refl _ _).alloc (Nat.le_refl _) _, Nat.le_refl _⟩
end

theorem or_any (a b : Nat) (ha : a < 18446744073709551616) (hb : b < 18446744073709551616) : bits BinOp.or IntKind.u64 (a : Int) (b : Int) = ((a ||| b : Nat) : Int) := u64_or_nat a b ha hb

set_option maxRecDepth 100000 in
set_option maxHeartbeats 1000000 in
theorem pairUp_any (A : Option Addr) (c : Nat) (ws : List Nat) (w : World) (h : Sl w w.heap.size A c ws) (hl : ws.length ≤ 100000000) :
    Calls Tryd.prog 73 #[.slice A ws.length c] w fun e w' => ∃ n ps, e = .returned (.slice (some ⟨w.heap.size, 0, none⟩) n n) ∧ Fill6 w w' w.heap.size n ps ∧ Kn.vb 18446744073709551616 ps = Kn.val ws ∧ n ≤ 100000000 := by
  obtain ⟨n, hn⟩ : ∃ n : Nat, n = (ws.length + 1) / 2 := ⟨_, rfl⟩
  have hmk := makeU64 n (by omega) ((((ws.length : Nat) : Int) + 1) / 2) (by omega)
  have e1 : ((((ws.length : Nat) : Int) + 1) / 2).toNat = n := by omega
  have hn1 : ws.length ≤ 2 * n := by omega
  have hn2 : n ≤ 100000000 := by omega
  have HN := Lib.hid hn
  clear hn
  go_enter Tryd.func73, Tryd.ntmps73
  go_wp2_with fail
  have F0 := Fill6.new_ w n
  revert F0
  generalize w.alloc (.cells (ncells .u64 (List.replicate n 0)) 48) = w1
  intro F0
  clear hmk e1
  go_loopw [13] (fun iv wr => ∃ k ps, k ≤ ws.length ∧ iv = .int .i64 (k : Nat) ∧ Fill6 w wr w.heap.size n ps ∧ Hid (Kn.vb 18446744073709551616 ps = Kn.val (ws.take k) ∧ (∀ t, k ≤ 2 * t → ps.getD t 0 = 0) ∧ (∀ t, k = 2 * t + 1 → ps.getD t 0 < 4294967296))) (fun iv _ => ws.length - (intOf iv).toNat)
  case atStart => exact ⟨0, _, Nat.zero_le _, rfl, F0, Lib.hid ⟨by rw [Kn.vb_zeros]; simp [Kn.val], fun t _ => by rw [List.getD_eq_getElem?_getD, List.getElem?_replicate]; split <;> rfl, fun t ht => by omega⟩⟩
  case round =>
    obtain ⟨k, ps, hk, rfl, F, HI⟩ := hrel
    by_cases hlt : k < ws.length
    · obtain ⟨b1, o1, x, rfl, hb1, hc1, hx, hxl⟩ := (h.below F.bel).word hlt
      obtain ⟨j, hj⟩ : ∃ j : Nat, j = k / 2 := ⟨_, rfl⟩
      have hjn : j < n := by omega
      have k2 : (k : Int) / 2 = (j : Int) := by omega
      obtain ⟨o, ho⟩ : ∃ o : Nat, Hid (o = ps.getD j 0) := ⟨_, Lib.hid rfl⟩
      have hcg := F.row.cell (k := j) (by have := F.len; omega)
      rw [← ho.out] at hcg
      have hfg := F.row.frozen j
      have hI1 : (j : Int) < (n : Int) := by omega
      have hI2 : (0 : Int) ≤ (j : Int) := by omega
      have hjl : j < ps.length := by have := F.len; omega
      rcases Nat.mod_two_eq_zero_or_one k with hm | hm
      · have km : (k : Int) % 2 = 0 := by omega
        have o0 : Hid (o = 0) := Lib.hid (by rw [ho.out]; exact HI.out.2.1 j (by omega))
        have HV : Hid (Kn.vb 18446744073709551616 (ps.set j x) = Kn.val (ws.take (k + 1)) ∧ (∀ t, k + 1 ≤ 2 * t → (ps.set j x).getD t 0 = 0) ∧ (∀ t, k + 1 = 2 * t + 1 → (ps.set j x).getD t 0 < 4294967296)) := Lib.hid (by
          have hk2 : k = 2 * j := by omega
          refine ⟨?_, fun t ht => ?_, fun t ht => ?_⟩
          · rw [hk2]; exact Kn.pair_even hjl (by rw [← hk2]; exact HI.out.1) (by rw [← ho.out]; exact o0.out) (by rw [← hk2]; exact hx.out)
          · rw [Kn.getD_set _ _ _ _ hjl, if_neg (by omega)]; exact HI.out.2.1 t (by omega)
          · rw [Kn.getD_set _ _ _ _ hjl, if_pos (by omega)]; exact hxl)
        have EO : Hid (bits BinOp.or IntKind.u64 (o : Int) (x : Int) = (x : Int)) := Lib.hid (by rw [or_any o x (by rw [o0.out]; decide) (by omega), o0.out, Nat.zero_or])
        have HF := (F.put j hjn (x := x) (by omega)).drew
        have HK := Lib.hid hm
        have HJ := Lib.hid hj
        clear hm hj
        go_wp2_with fail
        go_region
        all_goals
          go_wp2_with fail
          rw [EO.out]
          go_roundw
          case rel => exact ⟨k + 1, _, by omega, by go_num, HF, HV⟩
          case measure => simp [intOf]; omega
      · have km : (k : Int) % 2 = 1 := by omega
        have o1 : o < 4294967296 := by rw [ho.out]; exact HI.out.2.2 j (by omega)
        obtain ⟨y, hy⟩ : ∃ y : Nat, Hid (y = o + x * 4294967296) := ⟨_, Lib.hid rfl⟩
        have HV : Hid (Kn.vb 18446744073709551616 (ps.set j y) = Kn.val (ws.take (k + 1)) ∧ (∀ t, k + 1 ≤ 2 * t → (ps.set j y).getD t 0 = 0) ∧ (∀ t, k + 1 = 2 * t + 1 → (ps.set j y).getD t 0 < 4294967296)) := Lib.hid (by
          have hk2 : k = 2 * j + 1 := by omega
          refine ⟨?_, fun t ht => ?_, fun t ht => by omega⟩
          · rw [hk2, hy.out]; exact Kn.pair_odd hjl (by rw [← hk2]; exact HI.out.1) ho.out.symm (by rw [← hk2]; exact hx.out)
          · rw [Kn.getD_set _ _ _ _ hjl, if_neg (by omega)]; exact HI.out.2.1 t (by omega))
        have EO : Hid (bits BinOp.or IntKind.u64 (o : Int) ((x : Int) * 4294967296) = (y : Int)) := Lib.hid (by
          have := or_any o (x * 4294967296) (by omega) (by omega)
          rw [Int.natCast_mul] at this
          rw [show ((4294967296 : Nat) : Int) = 4294967296 from rfl] at this
          rw [this, hy.out]
          congr 1
          have h2 := Nat.shiftLeft_add_eq_or_of_lt (i := 32) (show o < 2 ^ 32 by omega) x
          rw [Nat.shiftLeft_eq] at h2
          rw [Nat.or_comm, ← h2]; omega)
        have HF := (F.put j hjn (x := y) (by rw [hy.out]; omega)).drew
        have HK := Lib.hid hm
        have HJ := Lib.hid hj
        clear hm hj
        go_wp2_with fail
        go_region
        all_goals
          go_wp2_with fail
          rw [EO.out]
          go_roundw
          case rel => exact ⟨k + 1, _, by omega, by go_num, HF, HV⟩
          case measure => simp [intOf]; omega
    · obtain rfl : k = ws.length := by omega
      have HV := HI.out.1
      rw [List.take_length] at HV
      have HVV := Lib.hid HV
      clear HV
      go_wp2_with fail
      go_ret
      exact ⟨n, ps, rfl, F, HVV.out, hn2⟩

set_option maxHeartbeats 400000 in
theorem trimPairs_any (g : Nat) (c n N : Nat) (ps : List Nat) (w0 w : World) (h : Fill6 w0 w g N ps) (hn : n ≤ N) (hc : n ≤ c) (hl : N ≤ 100000000) :
    Calls Tryd.prog 72 #[.slice (some ⟨g, 0, none⟩) n c] w fun e w' => ∃ m, m ≤ n ∧ e = .returned (.slice (some ⟨g, 0, none⟩) m c) ∧ w = w' ∧ Kn.vb 18446744073709551616 (ps.take m) = Kn.vb 18446744073709551616 (ps.take n) ∧ (m = 0 ∨ ps.getD (m - 1) 0 ≠ 0) := by
  go_enter Tryd.func72, Tryd.ntmps72
  go_wp2
  go_loop [0] (fun v => ∃ k : Nat, k ≤ n ∧ v = .slice (some ⟨g, 0, none⟩) k c ∧ Hid (Kn.vb 18446744073709551616 (ps.take k) = Kn.vb 18446744073709551616 (ps.take n))) (fun v => match v with | .slice _ n _ => n | _ => 0)
  case atStart => exact ⟨n, Nat.le_refl _, rfl, Lib.hid rfl⟩
  case round =>
    obtain ⟨k, hk, rfl, HV⟩ := hrel
    by_cases hk0 : k = 0
    · have H0 := Lib.hid hk0
      subst hk0
      go_wp2
      go_ret
      exact ⟨0, Nat.zero_le _, rfl, rfl, HV.out, Or.inl rfl⟩
    · have hk1 : 0 < k := by omega
      have hlen := h.len
      have hcell := h.row.cell (k := k - 1) (by omega)
      obtain ⟨x, hx⟩ : ∃ x, Hid (x = ps.getD (k - 1) 0) := ⟨_, Lib.hid rfl⟩
      rw [← hx.out] at hcell
      have e1 : ((k : Int) - 1).toNat = k - 1 := by omega
      have e2 : (0 : Int) ≤ (k : Int) - 1 := by omega
      have HL := Lib.hid hlen
      clear hk0 hlen
      by_cases hx0 : x = 0
      · subst hx0
        have hv : Hid (Kn.vb 18446744073709551616 (ps.take (k - 1)) = Kn.vb 18446744073709551616 (ps.take n)) := Lib.hid (by
          have h1 := Kn.vb_take_succ 18446744073709551616 ps (k := k - 1) (by have := HL.out; omega)
          rw [← hx.out, Nat.mul_zero, Nat.sub_add_cancel hk1, HV.out] at h1
          omega)
        go_wp2
        go_round
        case rel => exact ⟨k - 1, by omega, by first | rfl | (congr 1; omega) | (rw [e1]), hv⟩
        case measure => simp; omega
      · have hx1 : ((x : Int) == 0) = false := by simp; omega
        have HX := Lib.hid hx0
        clear hx0
        go_wp2
        go_ret
        exact ⟨k, hk, rfl, rfl, HV.out, Or.inr (by have e := hx.out; rw [List.getD_eq_getElem?_getD] at e; rw [← e]; exact HX.out)⟩
end Go.Proofs.YtmhfdmidaheoeaaDoor
