/- Walks: Height. -/
import Derived.Test.YtcckocaaoklibaaNi
import Derived.Test.YtcckocaaoklibaaNk
import Derived.Shelf.Strconv.Itoa3
import Derived.Deep.DeepCutAuto
namespace Go.Proofs.Ytcckocaaoklibaa
open Go.RowKit Go.Maps
set_option linter.unusedVariables false

/-- numbers as cells -/
def zcells (ws : List Int) : Array Value := (ws.map fun x => Value.int .i64 x).toArray
theorem zcells_made (n : Nat) : madeCells #[.int .i64 0] n = zcells (List.replicate n 0) := by
  apply Array.ext
  · simp [madeCells, zcells]
  · intro i h1 h2
    simp [madeCells, zcells, Nat.mod_one]
/-- the block g is just the numbers ws, not frozen -/
def IBlk (w : World) (g : Nat) (ws : List Int) : Prop := w.heap[g]? = some (.cells (zcells ws) 3 (0, 0))
theorem IBlk.lt {w : World} {g : Nat} {ws : List Int} (h : IBlk w g ws) : g < w.heap.size := (Array.getElem?_eq_some_iff.1 h).1
theorem IBlk.cell {w : World} {g : Nat} {ws : List Int} (h : IBlk w g ws) {k : Nat} (hk : k < ws.length) : w.cell? ⟨g, k, none⟩ = some (.int .i64 (ws.getD k 0)) := by
  rw [cell_of_row w g k _ _ _ h]
  simp [zcells, hk, List.getD_eq_getElem?_getD]
theorem IBlk.frozen {w : World} {g : Nat} {ws : List Int} (h : IBlk w g ws) (k : Nat) : w.frozen? ⟨g, k, none⟩ = false := frozen_of_row w g k _ _ h
theorem IBlk.new_ (w : World) (ws : List Int) : IBlk (w.alloc (.cells (zcells ws) 3)) w.heap.size ws := heap_alloc_new w _
theorem IBlk.drew {w : World} {g : Nat} {ws : List Int} (h : IBlk w g ws) : IBlk w.drew g ws := h
theorem IBlk.set_ {w : World} {g : Nat} {ws : List Int} (h : IBlk w g ws) (k : Nat) (x : Int) : IBlk (w.setCell ⟨g, k, none⟩ (.int .i64 x)) g (ws.set k x) := by
  have h' : w.heap[g]? = some (.cells (zcells ws) 3 (0, 0)) := h
  show ((w.setCell ⟨g, k, none⟩ (.int .i64 x)).heap)[g]? = some (.cells (zcells (ws.set k x)) 3 (0, 0))
  have e : zcells (ws.set k x) = (zcells ws).setIfInBounds k (.int .i64 x) := by
    unfold zcells
    rw [List.map_set]
    simp
  rw [e]
  simp [World.setCell, Array.getElem?_modify, h']
theorem makeIntsN (n : Nat) (hn : n ≤ 1000000) (W : World) : (Instr.makeSlice 57 (.int .i64 (n : Int)) (.int .i64 (n : Int))).run Try.prog W = .ok (.slice (some ⟨W.heap.size, 0, none⟩) n n) (W.alloc (.cells (zcells (List.replicate n 0)) 3)) := by
  have h := run_make_row' (P := Try.prog) 57 3 (.int .i64 0) 8 Try.underlying57 (by kernel_rfl) rfl .i64 .i64 n (by omega) (by omega) W
  rw [zcells_made] at h
  exact h

/-- the row of the heights, in a block of the call's own -/
structure HtW (w wr : World) (h : Nat → Nat) (n : Nat) : Prop where
  row : IBlk wr w.heap.size (Kl.htRow h n)
  bel : Below w.heap.size w wr
theorem HtW.cell {w wr : World} {h : Nat → Nat} {n a : Nat} (q : HtW w wr h n) (ha : a < n) : wr.cell? ⟨w.heap.size, a, none⟩ = some (.int .i64 (h a : Int)) := by
  rw [q.row.cell (by rw [Kl.htRow_length]; exact ha), Kl.htRow_get h ha]
theorem HtW.set_ {w wr : World} {h : Nat → Nat} {n : Nat} (q : HtW w wr h n) (a x : Nat) : HtW w (wr.setCell ⟨w.heap.size, a, none⟩ (.int .i64 (x : Int))) (Kl.upd h a x) n :=
  ⟨by rw [← Kl.htRow_set]; exact q.row.set_ a _, q.bel.setCell (by simp) _⟩
theorem HtW.drew {w wr : World} {h : Nat → Nat} {n : Nat} (q : HtW w wr h n) : HtW w wr.drew h n := ⟨q.row.drew, q.bel.drew⟩

section
variable {lb n : Nat} {An : Option Addr} {cn : Nat} {Mv : Value} {Aa : Option Addr} {ca : Nat} {Ab : Option Addr} {cb : Nat} {L : Nat → Nat → Bool}
set_option maxRecDepth 100000 in
set_option maxHeartbeats 8000000 in
theorem height_ok (hL : Kl.Lat L n) (hn : n ≤ 12) (hn0 : 0 < n) (w : World) (h : PL w lb n An cn Mv Aa ca Ab cb L) :
    Calls Try.prog 9 #[.pointer (some ⟨lb, 0, none⟩)] w fun e w' => ∃ H : Nat, e = .returned (.int .i64 (H : Int)) ∧ Kl.IsH (Kl.dn L n) n H ∧ Below w.heap.size w w' := by
  have HL := Lib.hid hL
  have HN := Lib.hid hn0
  clear hL hn0
  have hsz : Calls Try.prog 12 #[.pointer (some ⟨lb, 0, none⟩)] w fun e w' => e = .returned (.int .i64 (n : Int)) ∧ w = w' := size_ok w h
  have hmk := makeIntsN n (by omega)
  go_enter Try.func9, Try.ntmps9
  go_wp2_with fail
  refine hsz.mono ?_
  clear hsz
  rintro e w' ⟨rfl, rfl⟩
  go_wp2_with fail
  clear hmk
  have I0 : HtW w (w.alloc (.cells (zcells (List.replicate n 0)) 3)) (fun _ => 0) n := ⟨by rw [← Kl.htRow_zero]; exact IBlk.new_ _ _, al1 _ _⟩
  go_loopw [4, 12] (fun hv rv wr => ∃ r H : Nat, ∃ h : Nat → Nat, r ≤ n ∧ rv = .int .i64 (r : Int) ∧ hv = .int .i64 (H : Int) ∧ HtW w wr h n ∧ Kl.Ht0 L n r h H) (fun _ rv _ => n - (intOf rv).toNat)
  case atStart => exact ⟨0, 0, fun _ => 0, Nat.zero_le _, rfl, rfl, I0, Kl.Ht0.start L n⟩
  case round =>
    clear I0
    obtain ⟨r, H, ht, hr, rfl, rfl, I, Q⟩ := hrel
    by_cases hrl : r < n
    · have hrI : (r : Int) < (n : Int) := by omega
      go_wp2_with fail
      go_loopw [4, 16] (fun hv av wr => ∃ a H : Nat, ∃ h : Nat → Nat, a ≤ n ∧ av = .int .i64 (a : Int) ∧ hv = .int .i64 (H : Int) ∧ HtW w wr h n ∧ Kl.Ht1 L n r a h H) (fun _ av _ => n - (intOf av).toNat)
      case atStart => exact ⟨0, H, ht, Nat.zero_le _, rfl, rfl, I, Q.first⟩
      case round =>
        clear I Q
        obtain ⟨a, H, ht, ha, rfl, rfl, I, Q⟩ := hrel
        by_cases hal : a < n
        · have haI : (a : Int) < (n : Int) := by omega
          have hca := I.cell hal
          have hfa := I.row.frozen a
          have I2 := I.set_ a (max (ht a) 1)
          have Q2 := Q.enter hal (x := max (ht a) 1) rfl
          have HE := Lib.hid (show max ((ht a : Nat) : Int) 1 = ((max (ht a) 1 : Nat) : Int) by omega)
          clear Q I
          go_wp2_with fail
          clear hca hfa
          rw [← HE.out] at I2
          revert I2 Q2
          clear HE
          generalize wr.setCell ⟨w.heap.size, a, none⟩ (.int .i64 (max ((ht a : Nat) : Int) 1)) = w1
          generalize Kl.upd ht a (max (ht a) 1) = h1
          intro I2 Q2
          go_loopw [29] (fun bv wr => ∃ b : Nat, ∃ h : Nat → Nat, b ≤ n ∧ bv = .int .i64 (b : Int) ∧ HtW w wr h n ∧ Kl.Ht2 L n r a b h H) (fun bv _ => n - (intOf bv).toNat)
          case atStart => exact ⟨0, h1, Nat.zero_le _, rfl, I2, Q2⟩
          case round =>
            clear I2 Q2
            obtain ⟨b, h1, hb, rfl, I, Q⟩ := hrel
            by_cases hbl : b < n
            · have hbI : (b : Int) < (n : Int) := by omega
              by_cases hab : a = b
              · have q1 : ((a : Int) != (b : Int)) = false := by simp; omega
                have Q2 := Q.skip (fun e => e.2 hab.symm)
                clear Q hab
                go_wp2_with fail
                go_roundw
                case rel => exact ⟨b + 1, h1, by omega, by go_num, I, Q2⟩
                case measure => simp [intOf]; omega
              · have q1 : ((a : Int) != (b : Int)) = true := by simp; omega
                have hP := h.below I.bel
                have c2 := hP.four.c2
                obtain ⟨bk, off, x, rfl, hbb, hcx, hx⟩ := hP.ab.at_ (k := b) (by rw [Kl.rows_length]; exact hbl)
                have hbit : (bits BinOp.and IntKind.u64 ((x : Int) / 2 ^ a) 1 == 1) = L b a := by
                  rw [shr_bit x a hx.out.2, hx.out.1, Kl.rows_get _ hbl, Kb.wordTo_testBit]; simp [hal]
                cases hLb : L b a with
                | false =>
                  rw [hLb] at hbit
                  have Q2 := Q.skip (fun e => by rw [e.1] at hLb; cases hLb)
                  clear Q hLb hP hab
                  go_wp2_with fail
                  go_roundw
                  case rel => exact ⟨b + 1, h1, by omega, by go_num, I, Q2⟩
                  case measure => simp [intOf]; omega
                | true =>
                  rw [hLb] at hbit
                  have Q2 := Q.step hal hbl ⟨hLb, fun e => hab e.symm⟩ (x := max (h1 a) (h1 b + 1)) rfl
                  have I2 := (I.set_ a (max (h1 a) (h1 b + 1))).drew
                  have hsb : h1 b ≤ n := Q.u.small HL.out hbl
                  have HE := Lib.hid (show max ((h1 a : Nat) : Int) ((h1 b : Nat) + 1 : Int) = ((max (h1 a) (h1 b + 1) : Nat) : Int) by omega)
                  have hca := I.cell hal
                  have hcb := I.cell hbl
                  have hfa := I.row.frozen a
                  clear Q hLb hP hab
                  go_wp2_with fail
                  clear hcx hbit c2
                  rw [← HE.out] at I2
                  go_region
                  go_wp2_with fail
                  go_roundw
                  case rel => exact ⟨b + 1, _, by omega, by go_num, I2, Q2⟩
                  case measure => simp [intOf]; omega
            · obtain rfl : b = n := by omega
              have hca := I.cell hal
              have Q2 := Q.leave hal (x := max H (h1 a)) rfl
              have HE := Lib.hid (show max (H : Int) ((h1 a : Nat) : Int) = ((max H (h1 a) : Nat) : Int) by omega)
              clear Q
              go_wp2_with fail
              go_roundw
              case rel => exact ⟨a + 1, max H (h1 a), h1, by omega, by go_num, by rw [← HE.out], I, Q2⟩
              case measure => simp [intOf]; omega
        · obtain rfl : a = n := by omega
          go_wp2_with fail
          go_roundw
          case rel => exact ⟨r + 1, H, ht, by omega, by go_num, rfl, I, Q.last⟩
          case measure => simp [intOf]; omega
    · obtain rfl : r = n := by omega
      have hres := Lib.hid (Q.done HL.out HN.out)
      have hbel := I.bel
      clear Q I
      go_wp2_with fail
      go_ret
      exact ⟨H, rfl, hres.out, hbel⟩
end
end Go.Proofs.Ytcckocaaoklibaa
