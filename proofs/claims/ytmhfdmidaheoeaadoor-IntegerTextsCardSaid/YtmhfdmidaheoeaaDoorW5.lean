/- Walks: addWords. -/
import Derived.Test.YtmhfdmidaheoeaaDoorW4
namespace Go.Proofs.YtmhfdmidaheoeaaDoor
open Go.RowKit
set_option linter.unusedVariables false

theorem makeU32 (n : Nat) (hn : n ≤ 10000000000) (z : Int) (hz : z = (n : Int)) (W : World) : (Instr.makeSlice 22 (.int .i64 z) (.int .i64 z)).run Tryd.prog W = .ok (.slice (some ⟨W.heap.size, 0, none⟩) n n) (W.alloc (.cells (ncells .u32 (List.replicate n 0)) 39)) := by
  subst hz
  obtain ⟨i, hi, hzz⟩ := Option.map_eq_some_iff.1 infoU32
  simp only [Prod.mk.injEq] at hzz
  have h := run_make (P := Tryd.prog) W 22 39 i (.int .u32 0) Tryd.underlying22 hi hzz.1 .i64 .i64 n n (by omega) (by omega) (by rw [hzz.2.2]; omega) (by omega)
  rw [hzz.2.1, show (Value.int .u32 0).cells = #[.int .u32 0] from rfl] at h
  rw [← ncells_made]
  simpa using h

/-- a loop that fills the block g -/
structure FillW (w wr : World) (g n : Nat) (vs : List Nat) : Prop where
  row : Blk .u32 39 wr g vs
  len : vs.length = n
  wd : Kn.Wd vs
  bel : Below w.heap.size w wr
  hg : w.heap.size ≤ g
section
variable {w wr : World} {g n : Nat} {vs : List Nat}
theorem FillW.put (h : FillW w wr g n vs) (k : Nat) {x : Nat} (hx : x < 4294967296) : FillW w (wr.setCell ⟨g, k, none⟩ (.int .u32 (x : Int))) g n (vs.set k x) :=
  ⟨h.row.set_ k x, by rw [List.length_set]; exact h.len, h.wd.set k hx, h.bel.setCell (p := ⟨g, k, none⟩) h.hg _, h.hg⟩
theorem FillW.drew (h : FillW w wr g n vs) : FillW w wr.drew g n vs := ⟨h.row.drew, h.len, h.wd, bDrew1 h.bel, h.hg⟩
theorem FillW.drewN (h : FillW w wr g n vs) (q : Nat) : FillW w (wr.drewN q) g n vs := ⟨h.row.drewN q, h.len, h.wd, bDrew h.bel q, h.hg⟩
theorem FillW.new_ (w : World) (n : Nat) : FillW w (w.alloc (.cells (ncells .u32 (List.replicate n 0)) 39)) w.heap.size n (List.replicate n 0) :=
  ⟨Blk.new_ _ _ _ _, by simp, Kn.Wd.zeros n, (Below.refl _ _).alloc (Nat.le_refl _) _, Nat.le_refl _⟩
theorem FillW.sl (h : FillW w wr g n vs) : Sl wr wr.heap.size (some ⟨g, 0, none⟩) n vs := ⟨h.row.nums h.row.lt, h.wd, Nat.le_of_eq h.len, fun e => by cases e⟩
end
theorem FillW.mag {w wr : World} {g n N : Nat} {vs : List Nat} (h : FillW w wr g n vs) (hv : Kn.val vs = N) : MagRes N w (.returned (.slice (some ⟨g, 0, none⟩) (Kn.dig (Kn.val vs)).length n)) wr := by
  subst hv
  exact ⟨_, _, rfl, h.sl.trim, h.bel⟩
theorem wrap32_int {z : Int} {n : Nat} (h : z = (n : Int)) : IntKind.u32.wrap z = ((n % 4294967296 : Nat) : Int) := by rw [h]; exact wrap32_mod n

set_option maxRecDepth 100000 in
set_option maxHeartbeats 1000000 in
theorem addWords_any (A : Option Addr) (ca : Nat) (a : List Nat) (B : Option Addr) (cb : Nat) (b : List Nat) (w : World) (ha : Sl w w.heap.size A ca a) (hb : Sl w w.heap.size B cb b) (hla : a.length ≤ 999999999) (hlb : b.length ≤ 999999999) :
    Calls Tryd.prog 27 #[.slice A a.length ca, .slice B b.length cb] w (MagRes (Kn.val a + Kn.val b) w) := by
  rcases Nat.lt_or_ge a.length b.length with hab | hab
  · have hlt0 : decide (a.length < b.length) = true := by simp [hab]
    have hmk := makeU32 (b.length + 1) (by omega) (((b.length : Nat) : Int) + 1) (by omega)
    have e1 : (((b.length : Nat) : Int) + 1).toNat = b.length + 1 := by omega
    go_enter Tryd.func27, Tryd.ntmps27
    go_wp2_with fail
    have F0 := FillW.new_ w (b.length + 1)
    revert F0
    generalize w.alloc (.cells (ncells .u32 (List.replicate (b.length + 1) 0)) 39) = w1
    intro F0
    clear hmk
    go_loopw [6, 22] (fun cv iv wr => ∃ k cr vs, k ≤ b.length ∧ iv = .int .i64 (k : Nat) ∧ cv = .int .u64 (cr : Nat) ∧ cr ≤ 1 ∧ FillW w wr w.heap.size (b.length + 1) vs ∧ Hid (Kn.val (vs.take k) + Kn.pw k * cr = Kn.val (b.take k) + Kn.val (a.take k))) (fun _ iv _ => b.length - (intOf iv).toNat)
    case atStart => exact ⟨0, 0, _, Nat.zero_le _, rfl, rfl, by omega, F0, Lib.hid (by simp [Kn.val])⟩
    case round =>
      obtain ⟨k, cr, vs, hk, rfl, rfl, hcr, F, HI⟩ := hrel
      by_cases hlt : k < b.length
      · obtain ⟨b1, o1, x, rfl, hb1, hc1, hx, hxl⟩ := (hb.below F.bel).word hlt
        have hcg := F.row.cell (k := k) (by have := F.len; omega)
        have hfg := F.row.frozen k
        by_cases hlt2 : k < a.length
        · obtain ⟨b2, o2, y, rfl, hb2, hc2, hy, hyl⟩ := (ha.below F.bel).word hlt2
          have hlt3 : decide (k < a.length) = true := by simp [hlt2]
          go_wp2_with fail
          rw [show (((cr : Int) + (x : Int)) + (y : Int)) % 4294967296 = (((cr + x + y) % 4294967296 : Nat) : Int) by omega, show (((cr : Int) + (x : Int)) + (y : Int)) / 4294967296 = (((cr + x + y) / 4294967296 : Nat) : Int) by omega]
          have F2 := F.put k (x := (cr + x + y) % 4294967296) (by omega)
          have hq : (cr + x + y) / 4294967296 ≤ 1 := by omega
          have HI2 := Lib.hid (Kn.add_step (by have := F.len; omega) HI.out (show cr + x + y = _ by rw [hx.out, hy.out]))
          go_roundw
          case rel => exact ⟨k + 1, _, _, by omega, by go_num, rfl, hq, F2, HI2⟩
          case measure => simp [intOf]; omega
        · have hlt3 : decide (k < a.length) = false := by simp; omega
          have hy0 : Hid (a.getD k 0 = 0) := Lib.hid (by rw [List.getD_eq_getElem?_getD, List.getElem?_eq_none (by omega)]; rfl)
          go_wp2_with fail
          rw [show ((cr : Int) + (x : Int)) % 4294967296 = (((cr + x) % 4294967296 : Nat) : Int) by omega, show ((cr : Int) + (x : Int)) / 4294967296 = (((cr + x) / 4294967296 : Nat) : Int) by omega]
          have F2 := F.put k (x := (cr + x) % 4294967296) (by omega)
          have hq : (cr + x) / 4294967296 ≤ 1 := by omega
          have HI2 := Lib.hid (Kn.add_step (by have := F.len; omega) HI.out (show cr + x = _ by rw [hx.out, hy0.out, Nat.add_zero]))
          go_roundw
          case rel => exact ⟨k + 1, _, _, by omega, by go_num, rfl, hq, F2, HI2⟩
          case measure => simp [intOf]; omega
      · obtain rfl : k = b.length := by omega
        have hcg := F.row.cell (k := b.length) (by have := F.len; omega)
        have hfg := F.row.frozen b.length
        have F2 := F.put b.length (x := cr) (by omega)
        have HV : Hid (Kn.val (vs.set b.length cr) = Kn.val a + Kn.val b) := Lib.hid (by
          have hl := F.len
          have h1 := Kn.val_set_take vs cr (k := b.length) (by omega)
          have h2 := HI.out
          rw [List.take_of_length_le (by rw [List.length_set]; omega)] at h1
          rw [List.take_of_length_le (Nat.le_refl b.length), List.take_of_length_le (show a.length ≤ b.length by omega)] at h2
          omega)
        have hvl := F2.len
        have HVL := Lib.hid hvl
        have FS := F2.sl
        have hT := trim_any (some ⟨w.heap.size, 0, none⟩) (b.length + 1) (vs.set b.length cr) _ _ FS (by omega)
        rw [hvl] at hT
        have HT := Lib.hid hT
        clear hvl hT
        go_wp2_with fail
        refine HT.out.mono ?_
        rintro e w' ⟨rfl, rfl⟩
        clear hcg hfg
        go_wp2_with fail
        go_ret
        exact F2.mag HV.out
  · have hlt0 : decide (a.length < b.length) = false := by simp; omega
    have hmk := makeU32 (a.length + 1) (by omega) (((a.length : Nat) : Int) + 1) (by omega)
    have e1 : (((a.length : Nat) : Int) + 1).toNat = a.length + 1 := by omega
    go_enter Tryd.func27, Tryd.ntmps27
    go_wp2_with fail
    have F0 := FillW.new_ w (a.length + 1)
    revert F0
    generalize w.alloc (.cells (ncells .u32 (List.replicate (a.length + 1) 0)) 39) = w1
    intro F0
    clear hmk
    go_loopw [6, 22] (fun cv iv wr => ∃ k cr vs, k ≤ a.length ∧ iv = .int .i64 (k : Nat) ∧ cv = .int .u64 (cr : Nat) ∧ cr ≤ 1 ∧ FillW w wr w.heap.size (a.length + 1) vs ∧ Hid (Kn.val (vs.take k) + Kn.pw k * cr = Kn.val (a.take k) + Kn.val (b.take k))) (fun _ iv _ => a.length - (intOf iv).toNat)
    case atStart => exact ⟨0, 0, _, Nat.zero_le _, rfl, rfl, by omega, F0, Lib.hid (by simp [Kn.val])⟩
    case round =>
      obtain ⟨k, cr, vs, hk, rfl, rfl, hcr, F, HI⟩ := hrel
      by_cases hlt : k < a.length
      · obtain ⟨b1, o1, x, rfl, hb1, hc1, hx, hxl⟩ := (ha.below F.bel).word hlt
        have hcg := F.row.cell (k := k) (by have := F.len; omega)
        have hfg := F.row.frozen k
        by_cases hlt2 : k < b.length
        · obtain ⟨b2, o2, y, rfl, hb2, hc2, hy, hyl⟩ := (hb.below F.bel).word hlt2
          have hlt3 : decide (k < b.length) = true := by simp [hlt2]
          go_wp2_with fail
          rw [show (((cr : Int) + (x : Int)) + (y : Int)) % 4294967296 = (((cr + x + y) % 4294967296 : Nat) : Int) by omega, show (((cr : Int) + (x : Int)) + (y : Int)) / 4294967296 = (((cr + x + y) / 4294967296 : Nat) : Int) by omega]
          have F2 := F.put k (x := (cr + x + y) % 4294967296) (by omega)
          have hq : (cr + x + y) / 4294967296 ≤ 1 := by omega
          have HI2 := Lib.hid (Kn.add_step (by have := F.len; omega) HI.out (show cr + x + y = _ by rw [hx.out, hy.out]))
          go_roundw
          case rel => exact ⟨k + 1, _, _, by omega, by go_num, rfl, hq, F2, HI2⟩
          case measure => simp [intOf]; omega
        · have hlt3 : decide (k < b.length) = false := by simp; omega
          have hy0 : Hid (b.getD k 0 = 0) := Lib.hid (by rw [List.getD_eq_getElem?_getD, List.getElem?_eq_none (by omega)]; rfl)
          go_wp2_with fail
          rw [show ((cr : Int) + (x : Int)) % 4294967296 = (((cr + x) % 4294967296 : Nat) : Int) by omega, show ((cr : Int) + (x : Int)) / 4294967296 = (((cr + x) / 4294967296 : Nat) : Int) by omega]
          have F2 := F.put k (x := (cr + x) % 4294967296) (by omega)
          have hq : (cr + x) / 4294967296 ≤ 1 := by omega
          have HI2 := Lib.hid (Kn.add_step (by have := F.len; omega) HI.out (show cr + x = _ by rw [hx.out, hy0.out, Nat.add_zero]))
          go_roundw
          case rel => exact ⟨k + 1, _, _, by omega, by go_num, rfl, hq, F2, HI2⟩
          case measure => simp [intOf]; omega
      · obtain rfl : k = a.length := by omega
        have hcg := F.row.cell (k := a.length) (by have := F.len; omega)
        have hfg := F.row.frozen a.length
        have F2 := F.put a.length (x := cr) (by omega)
        have HV : Hid (Kn.val (vs.set a.length cr) = Kn.val a + Kn.val b) := Lib.hid (by
          have hl := F.len
          have h1 := Kn.val_set_take vs cr (k := a.length) (by omega)
          have h2 := HI.out
          rw [List.take_of_length_le (by rw [List.length_set]; omega)] at h1
          rw [List.take_of_length_le (Nat.le_refl a.length), List.take_of_length_le (show b.length ≤ a.length by omega)] at h2
          omega)
        have hvl := F2.len
        have HVL := Lib.hid hvl
        have FS := F2.sl
        have hT := trim_any (some ⟨w.heap.size, 0, none⟩) (a.length + 1) (vs.set a.length cr) _ _ FS (by omega)
        rw [hvl] at hT
        have HT := Lib.hid hT
        clear hvl hT
        go_wp2_with fail
        refine HT.out.mono ?_
        rintro e w' ⟨rfl, rfl⟩
        clear hcg hfg
        go_wp2_with fail
        go_ret
        exact F2.mag HV.out
end Go.Proofs.YtmhfdmidaheoeaaDoor
