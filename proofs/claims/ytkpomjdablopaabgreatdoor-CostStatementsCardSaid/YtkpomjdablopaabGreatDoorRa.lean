/- Walks: the reference's counts over an expression. -/
import Derived.Test.YtkpomjdablopaabGreatDoorRp
import Derived.Test.YtkpomjdablopaabGreatDoorCf
namespace Go.Proofs.YtkpomjdablopaabGreatDoor
open Go.RowKit Go.Sort
set_option linter.unusedVariables false

/-- the box of an expression, new memory behind it -/
structure Eb (w wr : World) (e : E) : Prop where
  be : Blk wr w.heap.size e.box
  bel : Below w.heap.size w wr
theorem Eb.start (w : World) (e : E) (T : TypeId) : Eb w (w.alloc (.cells e.box T)) e := ⟨Blk.new_ _ _ _, al1 _ _⟩
theorem Eb.below {w wr w' : World} {e : E} (h : Eb w wr e) (hb : Below wr.heap.size wr w') : Eb w w' e := ⟨h.be.below hb h.be.lt, bTrans h.bel hb⟩
theorem Eb.c3 {w wr : World} {e : E} (h : Eb w wr e) : wr.cell? ⟨w.heap.size, 3, none⟩ = some (.slice e.ad e.ks.length e.cap) := h.be.c 3 rfl
/-- a kid, read in a later world -/
theorem Eb.kid {w wr : World} {e k : E} (h : Eb w wr e) (hk : E.In wr w.heap.size k) : E.In wr wr.heap.size k := hk.more h.bel.size

/-- the contract of the test of few parts at one expression -/
def LfE (e : E) : Prop := ∀ (x : Int) (w : World), E.In w w.heap.size e → 0 ≤ x → x ≤ 60000 →
    Calls Tryz.prog 33 #[e.val, .int .i64 x] w fun r w' => r = .returned (.int .i64 (e.lf x)) ∧ Below w.heap.size w w' ∧ -600000000000000001 ≤ e.lf x
set_option maxRecDepth 100000 in
set_option maxHeartbeats 1000000 in
theorem left_any (e : E) : LfE e := by
  induction e using E.ind with
  | h e ih =>
  intro x w hin h0 hx
  have IH := Lib.hid ih
  have hl := hin.l
  have hlen := hin.nd.len
  have hnm := hin.nd.nm
  obtain ⟨q, hq⟩ : ∃ q : Int, Hid (((e.nm.size / 16 : Nat) : Int) = q) := ⟨_, Lib.hid rfl⟩
  have hqb : 0 ≤ q ∧ q ≤ 600000000000000000 := by rw [← hq.out]; omega
  have hd : (e.nm.size : Int).tdiv 16 = q := by rw [← hq.out]; exact (Int.ofNat_tdiv e.nm.size 16).symm
  have hd2 : (e.nm.size : Int) / 16 = q := by rw [← hq.out]; omega
  have HF : Hid (e.lf x = E.lfL e.ks (x - 1 - q)) := Lib.hid (by rw [E.lf_eq, hq.out])
  have X := Eb.start w e 27
  clear ih hnm
  obtain ⟨A, hA⟩ : ∃ A, Hid (e.ad = A) := ⟨_, Lib.hid rfl⟩
  rw [hA.out] at hl
  obtain ⟨y, hy⟩ : ∃ y, Hid (x - 1 - q = y) := ⟨_, Lib.hid rfl⟩
  have hyb : -600000000000000001 ≤ y ∧ y ≤ 59999 := by rw [← hy.out]; omega
  rw [hy.out] at HF
  have hw1 : IntKind.i64.wrap (x - 1 - q) = y := by rw [hy.out]; exact IntWalk.i64_in _ (by omega)
  go_enter Tryz.func33, Tryz.ntmps33
  go_wp2_with fail
  go_loopw [1, 5] (fun lv iv wr => ∃ (i : Nat) (z : Int), i ≤ e.ks.length ∧ iv = .int .i64 i ∧ lv = .int .i64 z ∧ Hid (z = E.lfL (e.ks.take i) y) ∧ -600000000000000001 ≤ z ∧ z ≤ 60000 ∧ Eb w wr e) (fun _ iv _ => e.ks.length - (intOf iv).toNat)
  case atStart => exact ⟨0, y, Nat.zero_le _, rfl, rfl, Lib.hid (by simp [E.lfL]), by omega, by omega, X⟩
  case round =>
    clear hw1 hd hd2 X
    obtain ⟨i, z, hi, rfl, rfl, hz, hz1, hz2, Y⟩ := hrel
    have c3 := Y.c3
    rw [hA.out] at c3
    by_cases hzn : 0 ≤ z
    · by_cases hlt : i < e.ks.length
      · obtain ⟨ab, off, k, rfl, hab, d0, d1, d2, d3, his, hkin⟩ := (hl.below Y.bel).at_ hlt
        have HI := Lib.hid (IH.out k his.mem)
        have hk2 := Y.kid hkin
        have HN : Hid (k.lf z = E.lfL (e.ks.take (i + 1)) y) := Lib.hid (by rw [his.take, E.lfL_snoc, ← hz.out, if_pos hzn])
        have hle := E.lf_le k z
        clear hkin
        go_wp2_with fail
        refine (HI.out z _ hk2 hzn hz2).mono ?_
        rintro r w2 ⟨rfl, b2, hlo⟩
        obtain ⟨v, hv⟩ : ∃ v, Hid (k.lf z = v) := ⟨_, Lib.hid rfl⟩
        rw [hv.out] at hlo hle HN ⊢
        have Y2 := Y.below b2
        go_wp2_with fail
        go_roundw
        case rel => exact ⟨i + 1, v, by omega, by go_num, rfl, HN, hlo, by omega, Y2⟩
        case measure => simp [intOf]; omega
      · obtain rfl : i = e.ks.length := by omega
        have HR : Hid (z = e.lf x) := Lib.hid (by rw [HF.out, hz.out, List.take_length])
        have b2 := Y.bel
        clear HF
        go_wp2_with fail
        go_ret
        exact ⟨ret_int HR.out, b2, by rw [← HR.out]; exact hz1⟩
    · have HR : Hid (z = e.lf x) := Lib.hid (by rw [HF.out, hz.out]; exact (E.lfL_stop (by rw [← hz.out]; omega)).symm)
      have b2 := Y.bel
      clear HF
      by_cases hlt : i < e.ks.length
      all_goals
        go_wp2_with fail
        go_ret
        exact ⟨ret_int HR.out, b2, by rw [← HR.out]; exact hz1⟩

/-- the contract of the number of nodes -/
def NdE (e : E) : Prop := ∀ w : World, E.In w w.heap.size e → e.nodes ≤ 1000000 → Calls Tryz.prog 65 #[e.val] w fun r w' => r = .returned (.int .i64 (e.nodes : Nat)) ∧ Below w.heap.size w w'
set_option maxRecDepth 100000 in
set_option maxHeartbeats 1000000 in
theorem rnodes_any (e : E) : NdE e := by
  induction e using E.ind with
  | h e ih =>
  intro w hin hmx
  have IH := Lib.hid ih
  have hl := hin.l
  have hlen := hin.nd.len
  have HN := Lib.hid (E.nodes_eq e)
  have X := Eb.start w e 27
  obtain ⟨A, hA⟩ : ∃ A, Hid (e.ad = A) := ⟨_, Lib.hid rfl⟩
  rw [hA.out] at hl
  clear ih
  go_enter Tryz.func65, Tryz.ntmps65
  go_wp2_with fail
  go_loopw [3, 4] (fun nv iv wr => ∃ i m : Nat, i ≤ e.ks.length ∧ iv = .int .i64 i ∧ nv = .int .i64 (m : Int) ∧ Hid (m = E.nodesL (e.ks.take i) + 1) ∧ m ≤ 1000000 ∧ Eb w wr e) (fun _ iv _ => e.ks.length - (intOf iv).toNat)
  case atStart => exact ⟨0, 1, Nat.zero_le _, rfl, rfl, Lib.hid (by simp [E.nodesL]), by omega, X⟩
  case round =>
    clear X
    obtain ⟨i, m, hi, rfl, rfl, hm, hm2, Y⟩ := hrel
    have c3 := Y.c3
    rw [hA.out] at c3
    by_cases hlt : i < e.ks.length
    · obtain ⟨ab, off, k, rfl, hab, d0, d1, d2, d3, his, hkin⟩ := (hl.below Y.bel).at_ hlt
      have HI := Lib.hid (IH.out k his.mem)
      have hk2 := Y.kid hkin
      have hs := E.nodes_kid his
      obtain ⟨kn, hkn⟩ : ∃ kn, Hid (k.nodes = kn) := ⟨_, Lib.hid rfl⟩
      have hkb : k.nodes ≤ 1000000 := by have := HN.out; omega
      have HM : Hid (m + kn = E.nodesL (e.ks.take (i + 1)) + 1) := Lib.hid (by rw [his.take, E.nodesL_snoc, hm.out, hkn.out]; omega)
      have hm3 : m + kn ≤ 1000000 := by rw [hm.out, ← hkn.out]; have := HN.out; omega
      clear hkin hs
      go_wp2_with fail
      refine (HI.out _ hk2 hkb).mono ?_
      rintro r w2 ⟨rfl, b2⟩
      rw [hkn.out]
      clear hkb
      have Y2 := Y.below b2
      go_wp2_with fail
      go_roundw
      case rel => exact ⟨i + 1, m + kn, by omega, by go_num, by go_num, HM, hm3, Y2⟩
      case measure => simp [intOf]; omega
    · obtain rfl : i = e.ks.length := by omega
      have HR : Hid ((m : Int) = (e.nodes : Nat)) := Lib.hid (by rw [HN.out, hm.out, List.take_length])
      have b2 := Y.bel
      go_wp2_with fail
      go_ret
      exact ⟨ret_int HR.out, b2⟩

/-- the contract of the depth -/
def DpE (e : E) : Prop := ∀ w : World, E.In w w.heap.size e → e.nodes ≤ 1000000 → Calls Tryz.prog 67 #[e.val] w fun r w' => r = .returned (.int .i64 (e.dep : Nat)) ∧ Below w.heap.size w w'
set_option maxRecDepth 100000 in
set_option maxHeartbeats 1000000 in
theorem rdepth_any (e : E) : DpE e := by
  induction e using E.ind with
  | h e ih =>
  intro w hin hmx
  have IH := Lib.hid ih
  have hl := hin.l
  have hlen := hin.nd.len
  have HN := Lib.hid (E.nodes_eq e)
  have HD := Lib.hid (E.dep_eq e)
  have X := Eb.start w e 27
  obtain ⟨A, hA⟩ : ∃ A, Hid (e.ad = A) := ⟨_, Lib.hid rfl⟩
  rw [hA.out] at hl
  clear ih
  go_enter Tryz.func67, Tryz.ntmps67
  go_wp2_with fail
  go_loopw [3, 4] (fun nv iv wr => ∃ i m : Nat, i ≤ e.ks.length ∧ iv = .int .i64 i ∧ nv = .int .i64 (m : Int) ∧ Hid (m = E.depL (e.ks.take i)) ∧ m ≤ 1000000 ∧ Eb w wr e) (fun _ iv _ => e.ks.length - (intOf iv).toNat)
  case atStart => exact ⟨0, 0, Nat.zero_le _, rfl, rfl, Lib.hid (by simp [E.depL]), by omega, X⟩
  case round =>
    clear X
    obtain ⟨i, m, hi, rfl, rfl, hm, hm2, Y⟩ := hrel
    have c3 := Y.c3
    rw [hA.out] at c3
    by_cases hlt : i < e.ks.length
    · obtain ⟨ab, off, k, rfl, hab, d0, d1, d2, d3, his, hkin⟩ := (hl.below Y.bel).at_ hlt
      have HI := Lib.hid (IH.out k his.mem)
      have hk2 := Y.kid hkin
      have hs := E.nodes_kid his
      obtain ⟨kn, hkn⟩ : ∃ kn, Hid (k.dep = kn) := ⟨_, Lib.hid rfl⟩
      have hkb : k.nodes ≤ 1000000 := by have := HN.out; omega
      have hkd : kn ≤ 1000000 := by rw [← hkn.out]; have := E.dep_nodes k; omega
      have HM : Hid (max m kn = E.depL (e.ks.take (i + 1))) := Lib.hid (by rw [his.take, E.depL_snoc, hm.out, hkn.out])
      clear hkin hs
      go_wp2_with fail
      refine (HI.out _ hk2 hkb).mono ?_
      rintro r w2 ⟨rfl, b2⟩
      rw [hkn.out]
      clear hkb
      have Y2 := Y.below b2
      by_cases hgt : m < kn
      · have HM2 : Hid (kn = E.depL (e.ks.take (i + 1))) := Lib.hid (by rw [← HM.out]; omega)
        clear HM
        go_wp2_with fail
        go_roundw
        case rel => exact ⟨i + 1, kn, by omega, by go_num, rfl, HM2, hkd, Y2⟩
        case measure => simp [intOf]; omega
      · have HM2 : Hid (m = E.depL (e.ks.take (i + 1))) := Lib.hid (by rw [← HM.out]; omega)
        clear HM
        go_wp2_with fail
        go_roundw
        case rel => exact ⟨i + 1, m, by omega, by go_num, rfl, HM2, hm2, Y2⟩
        case measure => simp [intOf]; omega
    · obtain rfl : i = e.ks.length := by omega
      have HR : Hid ((m : Int) + 1 = (e.dep : Nat)) := Lib.hid (by rw [HD.out, hm.out, List.take_length]; rfl)
      have b2 := Y.bel
      go_wp2_with fail
      go_ret
      exact ⟨ret_int HR.out, b2⟩
end Go.Proofs.YtkpomjdablopaabGreatDoor
