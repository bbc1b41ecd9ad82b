/- Walks: the reference's Has; Branches and the reference's. -/
import Derived.Test.YtcicejmahlobhaaDoorS1
import Derived.Test.YtcicejmahlobhaaDoorBW8
namespace Go.Proofs.YtcicejmahlobhaaDoor
open Go.RowKit Bs
set_option linter.unusedVariables false

def bcells (f : Nat → Bool) (k : Nat) : List Value := (List.range k).map fun i => Value.bool (f i)
theorem bcells_congr {f g : Nat → Bool} {n : Nat} (h : ∀ j, j < n → f j = g j) : bcells f n = bcells g n := by
  unfold bcells
  exact List.map_congr_left fun j hj => by rw [h j (List.mem_range.1 hj)]
theorem bcells_set (f : Nat → Bool) (n i : Nat) (m : Bool) : (bcells f n).set i (.bool m) = bcells (fun j => if j = i then m else f j) n := by
  apply List.ext_getElem?
  intro j
  unfold bcells
  rw [List.getElem?_set]
  by_cases e : i = j
  · subst e
    by_cases h : i < n
    · rw [if_pos rfl, if_pos (by simpa using h), List.getElem?_map, List.getElem?_range h]; simp
    · rw [if_pos rfl, if_neg (by simpa using h), List.getElem?_eq_none (by simp; omega)]
  · rw [if_neg e, List.getElem?_map, List.getElem?_map]
    by_cases h : j < n
    · rw [List.getElem?_range h]; simp [show ¬ j = i from fun q => e q.symm]
    · rw [List.getElem?_eq_none (by simp; omega)]; rfl

/-- the block g is just these cells, of type bool, not frozen -/
def BBlk (w : World) (g : Nat) (xs : List Value) : Prop := w.heap[g]? = some (.cells xs.toArray 4 (0, 0))
theorem BBlk.lt {w : World} {g : Nat} {xs : List Value} (h : BBlk w g xs) : g < w.heap.size := (Array.getElem?_eq_some_iff.1 h).1
theorem BBlk.cell {w : World} {g : Nat} {xs : List Value} (h : BBlk w g xs) {k : Nat} {v : Value} (hk : xs[k]? = some v) : w.cell? ⟨g, k, none⟩ = some v := by
  rw [cell_of_row w g k _ _ _ h]
  simpa using hk
theorem BBlk.frozen {w : World} {g : Nat} {xs : List Value} (h : BBlk w g xs) (k : Nat) : w.frozen? ⟨g, k, none⟩ = false := frozen_of_row w g k _ _ h
theorem BBlk.new_ (w : World) (xs : List Value) : BBlk (w.alloc (.cells xs.toArray 4)) w.heap.size xs := heap_alloc_new w _
theorem BBlk.below {w w' : World} {g B : Nat} {xs : List Value} (h : BBlk w g xs) (hb : Below B w w') (hg : g < B) : BBlk w' g xs := (hb.block g hg).trans h
theorem BBlk.set_ {w : World} {g : Nat} {xs : List Value} (h : BBlk w g xs) (k : Nat) (v : Value) : BBlk (w.setCell ⟨g, k, none⟩ v) g (xs.set k v) := by
  have h' : w.heap[g]? = some (.cells xs.toArray 4 (0, 0)) := h
  show ((w.setCell ⟨g, k, none⟩ v).heap)[g]? = some (.cells (xs.set k v).toArray 4 (0, 0))
  have e : (xs.set k v).toArray = xs.toArray.setIfInBounds k v := by simp
  rw [e]
  simp [World.setCell, Array.getElem?_modify, h']
theorem bcells_at (f : Nat → Bool) {n k : Nat} (hk : k < n) : (bcells f n)[k]? = some (.bool (f k)) := by
  unfold bcells; rw [List.getElem?_map, List.getElem?_range hk]; rfl
theorem makeBools (n : Nat) (hn : n ≤ 1000000) (W : World) : (Instr.makeSlice 70 (.int .i64 (n : Int)) (.int .i64 (n : Int))).run Tryd.prog W = .ok (.slice (some ⟨W.heap.size, 0, none⟩) n n) (W.alloc (.cells (bcells (fun _ => false) n).toArray 4)) := by
  have h := run_make_row' (P := Tryd.prog) 70 4 (.bool false) 1 Tryd.underlying70 (by kernel_rfl) rfl .i64 .i64 n (by omega) (by omega) W
  have e : madeCells #[.bool false] n = (bcells (fun _ => false) n).toArray := by
    apply Array.ext
    · simp [madeCells, bcells]
    · intro i h1 h2
      simp [madeCells, bcells, Nat.mod_one]
  rw [e] at h
  exact h

theorem shr_bit (x k : Nat) (hx : x < 2 ^ 64) : (bits BinOp.and IntKind.u64 ((x : Int) / 2 ^ k) 1 == 1) = x.testBit k := by
  have e : ((x : Int) / 2 ^ k) = ((x / 2 ^ k : Nat) : Int) := by rw [Int.natCast_ediv, Int.natCast_pow]; rfl
  have hle : x / 2 ^ k ≤ x := Nat.div_le_self _ _
  rw [e, show (1 : Int) = ((1 : Nat) : Int) from rfl, u64_and_nat _ 1 (Nat.lt_of_le_of_lt hle hx) (by decide), nat_mask1, ← Kb.testBit_shift, Bool.eq_iff_iff]
  simp only [beq_iff_eq]
  omega

set_option maxRecDepth 100000 in
set_option maxHeartbeats 400000 in
theorem rhas_ok (n : Nat) (A : Option Addr) (c : Nat) (ws : List Nat) (j : Nat) (w : World) (h : Words w w.heap.size A ws) (hok : Kb.Ok n ws) (hn : n ≤ 4096) (hj : j < n) :
    Calls Tryd.prog 47 #[.agg #[.int .i64 (n : Int), .slice A ws.length c], .int .i64 (j : Int)] w fun e w' => e = .returned (.bool (Kb.bitAt ws j)) ∧ Below w.heap.size w w' := by
  have b0 : Below w.heap.size w (w.alloc (.cells #[.int .i64 (n : Int), .slice A ws.length c] 24)) := (Below.refl _ _).alloc (Nat.le_refl _) _
  have hl : j / 64 < ws.length := by rw [hok.len]; unfold Kb.nw; omega
  obtain ⟨b, off, x, rfl, hbb, hc, hx⟩ := h.at_ hl
  have hbit : Hid ((bits BinOp.and IntKind.u64 ((x : Int) / 2 ^ (j % 64)) 1 == 1) = Kb.bitAt ws j) := Lib.hid (by rw [shr_bit x _ hx.out.2, hx.out.1]; rfl)
  have e1 : IntKind.i64.wrap ((j : Int) / 64) = (j : Int) / 64 := IntWalk.i64_in _ (by omega)
  have e2 : ((j : Int)).tmod 64 = (j : Int) % 64 := Int.tmod_eq_emod_of_nonneg (by omega)
  have e3 : ((j : Int) / 64).toNat = j / 64 := by omega
  have e4 : (j : Int) / 64 < (ws.length : Int) := by omega
  go_enter Tryd.func47, Tryd.ntmps47
  go_wp2_with fail
  go_ret
  exact ⟨ret_bool hbit.out, b0⟩

/-- what Branches hands back -/
def BrRes (x code : Int) (w : World) (e : Ending) (w' : World) : Prop := e = .returned (.tuple #[.int .i64 x, .int .i64 code]) ∧ Below w.heap.size w w'
/-- how many classes a set meets -/
def brZ (p : List Int) (ws : List Nat) : Nat := Ks.brM (Ks.hitB (Kp.lab p) (Kb.bitAt ws) p.length) (Kp.cnt0 p)
theorem brZ_le (p : List Int) (ws : List Nat) : brZ p ws ≤ p.length := Nat.le_trans (Ks.brM_le _ _) (Kp.cnt0_le p)

/-- Branches' world in the loop -/
structure BrInv (w wr : World) (g : Nat) (x y : Value) (f : Nat → Bool) (m : Nat) : Prop where
  t : Two wr w.heap.size x y
  row : BBlk wr g (bcells f m)
  hg : w.heap.size < g
  bel : Below w.heap.size w wr

set_option maxRecDepth 100000 in
set_option maxHeartbeats 1000000 in
theorem branches_bad (A : Option Addr) (ca : Nat) (p : List Int) (size : Int) (B : Option Addr) (cb : Nat) (ws : List Nat) (w : World) (ha : Ints w w.heap.size A p) (hb : Words w w.heap.size B ws) (hlp : p.length ≤ 1000000) (hl : ws.length ≤ 140737488351232) (hc : scode p size ws ≠ 0) :
    Calls Tryd.prog 14 #[.slice A p.length ca, setV size B ws.length cb] w (BrRes 0 (scode p size ws) w) := by
  have b0 : Below w.heap.size w (w.alloc (.cells #[.int .i64 size, .slice B ws.length cb] 24)) := (Below.refl _ _).alloc (Nat.le_refl _) _
  have hC : (scode p size ws != 0) = true := by simpa using hc
  have HC := Lib.hid hc
  clear hc
  unfold setV
  go_enter Tryd.func14, Tryd.ntmps14
  go_wp2_with fail
  refine (check_any A ca p size B cb ws _ ((ha.below b0).more b0.size) ((hb.below b0).more b0.size) hlp hl).mono ?_
  rintro e w1 ⟨rfl, hb1⟩
  go_wp2_with fail
  go_ret2
  exact ⟨rfl, b0.trans (hb1.mono b0.size)⟩

set_option maxRecDepth 100000 in
set_option maxHeartbeats 1000000 in
theorem rbranches_bad (A : Option Addr) (ca : Nat) (p : List Int) (size : Int) (B : Option Addr) (cb : Nat) (ws : List Nat) (w : World) (ha : Ints w w.heap.size A p) (hb : Words w w.heap.size B ws) (hlp : p.length ≤ 1000000) (hl : ws.length ≤ 140737488351232) (hc : scode p size ws ≠ 0) :
    Calls Tryd.prog 15 #[.slice A p.length ca, setV size B ws.length cb] w (BrRes 0 (scode p size ws) w) := by
  have b0 : Below w.heap.size w (w.alloc (.cells #[.int .i64 size, .slice B ws.length cb] 24)) := (Below.refl _ _).alloc (Nat.le_refl _) _
  have hC : (scode p size ws != 0) = true := by simpa using hc
  have HC := Lib.hid hc
  clear hc
  unfold setV
  go_enter Tryd.func15, Tryd.ntmps15
  go_wp2_with fail
  refine (split_any A ca p size B cb ws _ ((ha.below b0).more b0.size) ((hb.below b0).more b0.size) hlp hl).mono ?_
  rintro e w1 ⟨rfl, hb1⟩
  go_wp2_with fail
  go_ret2
  exact ⟨rfl, b0.trans (hb1.mono b0.size)⟩

/-- a box of the call's own, and what lies before it -/
structure RbInv (w wr : World) (x y : Value) : Prop where
  t : Two wr w.heap.size x y
  bel : Below w.heap.size w wr
theorem RbInv.below {w wr wx : World} {x y : Value} (h : RbInv w wr x y) (hb : Below wr.heap.size wr wx) : RbInv w wx x y := ⟨h.t.below hb h.t.lt, h.bel.trans (hb.mono h.bel.size)⟩

set_option maxRecDepth 100000 in
set_option maxHeartbeats 1000000 in
theorem rbranches_ok (A : Option Addr) (ca : Nat) (p : List Int) (n : Nat) (B : Option Addr) (cb : Nat) (ws : List Nat) (w : World) (ha : Ints w w.heap.size A p) (hb : Words w w.heap.size B ws) (hn : n ≤ 4096) (hc : scode p n ws = 0) :
    Calls Tryd.prog 15 #[.slice A p.length ca, setV n B ws.length cb] w (BrRes (brZ p ws) 0 w) := by
  obtain ⟨hvp, hvs, hs⟩ := scode_zero hc
  have hpn : p.length = n := by omega
  have hok := ((Kb.validB_iff hb.lt).1 hvs).2.2
  rw [Int.toNat_natCast] at hok
  have hl : ws.length ≤ 64 := by rw [hok.len]; unfold Kb.nw; omega
  have b0 : Below w.heap.size w (w.alloc (.cells #[.int .i64 (n : Int), .slice B ws.length cb] 24)) := (Below.refl _ _).alloc (Nat.le_refl _) _
  obtain ⟨m, hm⟩ : ∃ m, Hid (Kp.cnt0 p = m) := ⟨_, Lib.hid rfl⟩
  have hmle : m ≤ 4096 := by have := Kp.cnt0_le p; rw [hm.out] at this; omega
  have hR : Hid (brZ p ws = Ks.brM (Ks.hitB (Kp.lab p) (Kb.bitAt ws) n) m) := Lib.hid (by unfold brZ; rw [hm.out, hpn])
  have HC := Lib.hid hc
  have HP := Lib.hid hpn
  have hpl : p.length ≤ 4096 := by omega
  clear hc hvp hvs hs hpn
  unfold setV
  go_enter Tryd.func15, Tryd.ntmps15
  go_wp2_with fail
  refine (split_any A ca p n B cb ws _ ((ha.below b0).more b0.size) ((hb.below b0).more b0.size) (by omega) (by omega)).mono ?_
  rintro e w1 ⟨rfl, hb1⟩
  rw [HC.out]
  have K0 : RbInv w w1 (.int .i64 (n : Int)) (.slice B ws.length cb) := ⟨(Two.new_ _ _ _ _).below hb1 (by simp), b0.trans (hb1.mono b0.size)⟩
  clear b0 hb1
  go_wp2_with fail
  go_loopw [7, 8] (fun nv cv wr => ∃ c r : Nat, c ≤ m ∧ r ≤ c ∧ cv = .int .i64 c ∧ nv = .int .i64 r ∧ Hid (r = Ks.brM (Ks.hitB (Kp.lab p) (Kb.bitAt ws) n) c) ∧ RbInv w wr (.int .i64 (n : Int)) (.slice B ws.length cb)) (fun _ cv _ => m - (intOf cv).toNat)
  case atStart => exact ⟨0, 0, Nat.zero_le _, Nat.le_refl _, rfl, rfl, Lib.hid rfl, K0⟩
  case round =>
    obtain ⟨c, r, hcm, hrc, rfl, rfl, hr, K⟩ := hrel
    clear K0
    by_cases hlt : c < m
    · have hltI : (c : Int) < (m : Int) := by omega
      go_wp2_with fail
      refine (rcount_any A ca p _ ((ha.below K.bel).more K.bel.size) (by omega)).mono ?_
      rintro e w2 ⟨rfl, rfl⟩
      rw [hm.out]
      go_wp2_with fail
      go_loopw [9, 10] (fun sv iv wx => ∃ i : Nat, i ≤ n ∧ iv = .int .i64 i ∧ sv = .bool (Ks.hitB (Kp.lab p) (Kb.bitAt ws) i c) ∧ RbInv w wx (.int .i64 (n : Int)) (.slice B ws.length cb)) (fun _ iv _ => n - (intOf iv).toNat)
      case atStart => exact ⟨0, Nat.zero_le _, rfl, rfl, K⟩
      case round =>
        obtain ⟨i, hin, rfl, rfl, K2⟩ := hrel
        have c20 := K2.t.c0
        have c21 := K2.t.c1
        by_cases hi : i < n
        · have hipI : (i : Int) < (p.length : Int) := by have := HP.out; omega
          obtain ⟨bp, op, z, rfl, hbp, hcp, hz⟩ := (ha.below K2.bel).at_ (k := i) (by have := HP.out; omega)
          have hzl : Hid (z = Kp.lab p i) := Lib.hid hz.out.1
          have hS := Lib.hid (Ks.hitB_succ (Kp.lab p) (Kb.bitAt ws) i c)
          by_cases hzc : z = (c : Int)
          · have hzb : (z == (c : Int)) = true := by simp [hzc]
            have HZ := Lib.hid hzc
            clear hzc
            go_wp2_with fail
            refine (rhas_ok n B cb ws i _ ((hb.below K2.bel).more K2.bel.size) hok hn hi).mono ?_
            rintro e w3 ⟨rfl, hb3⟩
            have K3 := K2.below hb3
            clear c20 c21 K2 hb3
            cases hbit : Kb.bitAt ws i with
            | true =>
              have HB := Lib.hid hbit
              clear hbit
              go_wp2_with fail
              go_roundw
              case rel => exact ⟨i + 1, by omega, by go_num, by rw [hS.out, ← hzl.out, HZ.out, HB.out]; simp, K3⟩
              case measure => simp [intOf]; omega
            | false =>
              have HB := Lib.hid hbit
              clear hbit
              go_wp2_with fail
              go_roundw
              case rel => exact ⟨i + 1, by omega, by go_num, by rw [hS.out, HB.out]; simp, K3⟩
              case measure => simp [intOf]; omega
          · have hzb : (z == (c : Int)) = false := by simpa using hzc
            have HZ := Lib.hid hzb
            clear hzc
            go_wp2_with fail
            go_roundw
            case rel => exact ⟨i + 1, by omega, by go_num, by rw [hS.out, ← hzl.out, HZ.out]; simp, K2⟩
            case measure => simp [intOf]; omega
        · obtain rfl : i = n := by omega
          have hipI : ¬ (i : Int) < (p.length : Int) := by have := HP.out; omega
          have hbs : Ks.brM (Ks.hitB (Kp.lab p) (Kb.bitAt ws) i) (c + 1) = Ks.brM (Ks.hitB (Kp.lab p) (Kb.bitAt ws) i) c + if Ks.hitB (Kp.lab p) (Kb.bitAt ws) i c then 1 else 0 := rfl
          have HBS := Lib.hid hbs
          clear hbs
          cases hh : Ks.hitB (Kp.lab p) (Kb.bitAt ws) i c with
          | true =>
            have HH := Lib.hid hh
            clear hh
            go_wp2_with fail
            go_roundw
            case rel => exact ⟨c + 1, r + 1, by omega, by omega, by go_num, by go_num, Lib.hid (by rw [HBS.out, HH.out, ← hr.out]; rfl), K2⟩
            case measure => simp [intOf]; omega
          | false =>
            have HH := Lib.hid hh
            clear hh
            go_wp2_with fail
            go_roundw
            case rel => exact ⟨c + 1, r, by omega, by omega, by go_num, rfl, Lib.hid (by rw [HBS.out, HH.out, ← hr.out]; rfl), K2⟩
            case measure => simp [intOf]; omega
    · obtain rfl : c = m := by omega
      go_wp2_with fail
      refine (rcount_any A ca p _ ((ha.below K.bel).more K.bel.size) (by omega)).mono ?_
      rintro e w2 ⟨rfl, rfl⟩
      rw [hm.out]
      go_wp2_with fail
      go_ret2
      exact ⟨by rw [hR.out, ← hr.out]; rfl, K.bel⟩
end Go.Proofs.YtcicejmahlobhaaDoor
