/- Walks: the reference's Meet and Join. -/
import Derived.Test.YtdfkgkgglldokaaWc
namespace Go.Proofs.Ytdfkgkgglldokaa
open Go.RowKit Go.Maps
set_option linter.unusedVariables false

namespace Kp
/-- together in both lists -/
def Tg (p q : List Int) (a b : Nat) : Prop := lab p a = lab p b ∧ lab q a = lab q b
/-- v is the first from j on that is together with i -/
structure MSp (p q : List Int) (i j v : Nat) : Prop where
  le : v ≤ i
  tg : Tg p q v i
  no : ∀ l, j ≤ l → l < v → ¬ Tg p q l i
theorem MSp.start (p q : List Int) (i : Nat) : MSp p q i i i := ⟨Nat.le_refl _, ⟨rfl, rfl⟩, fun l h1 h2 => by omega⟩
theorem MSp.hit {p q : List Int} {i j v : Nat} (h : MSp p q i (j + 1) v) (hji : j < i) (ht : Tg p q j i) : MSp p q i j j := ⟨by omega, ht, fun l h1 h2 => by omega⟩
theorem MSp.miss {p q : List Int} {i j v : Nat} (h : MSp p q i (j + 1) v) (ht : ¬ Tg p q j i) : MSp p q i j v := ⟨h.le, h.tg, fun l h1 h2 => by
  by_cases e : l = j
  · rw [e]; exact ht
  · exact h.no l (by omega) h2⟩
theorem msp_meet {p q L : List Int} (hl : L.length = p.length) (h : ∀ i, i < p.length → ∃ v : Nat, L.getD i 0 = (v : Int) ∧ MSp p q i 0 v) : IsMeet p q (ofL L) := by
  have hm : IsMeet p q (ofF (lab L) p.length) := IsMeet.of _ fun i j hi hj => by
    obtain ⟨v, ev, hv⟩ := h i hi
    obtain ⟨u, eu, hu⟩ := h j hj
    have e1 : lab L i = (v : Int) := ev
    have e2 : lab L j = (u : Int) := eu
    rw [e1, e2]
    constructor
    · intro e
      obtain rfl : v = u := by omega
      exact ⟨hv.tg.1.symm.trans hu.tg.1, hv.tg.2.symm.trans hu.tg.2⟩
    · rintro ⟨a, b⟩
      have tv : Tg p q v j := ⟨hv.tg.1.trans a, hv.tg.2.trans b⟩
      have tu : Tg p q u i := ⟨hu.tg.1.trans a.symm, hu.tg.2.trans b.symm⟩
      rcases Nat.lt_trichotomy v u with h1 | h1 | h1
      · exact absurd tv (hu.no v (Nat.zero_le _) h1)
      · rw [h1]
      · exact absurd tu (hv.no u (Nat.zero_le _) h1)
  unfold ofL
  rw [hl]; exact hm
theorem getD_setZ (L : List Int) (i : Nat) (x : Int) (j : Nat) (h : i < L.length) : (L.set i x).getD j 0 = if i = j then x else L.getD j 0 := by
  rw [List.getD_eq_getElem?_getD, List.getElem?_set, List.getD_eq_getElem?_getD]
  by_cases e : i = j
  · rw [if_pos e, if_pos e, if_pos h]; rfl
  · rw [if_neg e, if_neg e]
/-- the entries so far -/
def Done (p q L : List Int) (k : Nat) : Prop := ∀ i, i < k → ∃ v : Nat, L.getD i 0 = (v : Int) ∧ MSp p q i 0 v
theorem Done.next {p q L : List Int} {k v : Nat} (h : Done p q L k) (hk : k < L.length) (hv : MSp p q k 0 v) : Done p q (L.set k (v : Int)) (k + 1) := fun i hi => by
  rw [getD_setZ _ _ _ _ hk]
  by_cases e : k = i
  · subst e; rw [if_pos rfl]; exact ⟨v, rfl, hv⟩
  · rw [if_neg e]; exact h i (by omega)
theorem Done.bd {p q L : List Int} (h : Done p q L L.length) (hl : L.length ≤ 1000000) : ∀ x ∈ L, -9223372036854775808 ≤ x ∧ x ≤ 9223372036854775807 := fun x hx => by
  obtain ⟨i, hi, rfl⟩ := List.getElem_of_mem hx
  obtain ⟨v, ev, hv⟩ := h i hi
  rw [List.getD_eq_getElem?_getD, List.getElem?_eq_getElem hi] at ev
  simp only [Option.getD_some] at ev
  rw [ev]
  have := hv.le
  omega
end Kp

theorem set_set_ (L : List Int) (i : Nat) (x y : Int) : (L.set i x).set i y = L.set i y := by simp

set_option maxRecDepth 100000 in
set_option maxHeartbeats 2000000 in
theorem rmeet_ok (A : Option Addr) (ca : Nat) (p : List Int) (B : Option Addr) (cb : Nat) (q : List Int) (w : World) (ha : Ints w w.heap.size A p) (hb : Ints w w.heap.size B q) (hlp : p.length ≤ 1000000) (hlq : q.length ≤ 1000000) (hc : Kp.code p q = 0) :
    Calls Try.prog 27 #[.slice A p.length ca, .slice B q.length cb] w (PairRes (Kp.IsMeet p q) w) := by
  obtain ⟨hvp, hvq, hpq⟩ := Kp.code_zero hc
  have hL := Lib.hid hpq
  have hC := Lib.hid hc
  have hmk := makeInts p.length hlp
  clear hc hvp hvq hpq
  go_enter Try.func27, Try.ntmps27
  go_wp2_with fail
  refine (rboth_any A ca p B cb q _ ha hb hlp hlq).mono ?_
  rintro e w' ⟨rfl, rfl⟩
  rw [hC.out]
  go_wp2_with fail
  clear hmk
  go_loopw [8] (fun iv wr => ∃ (k : Nat) (L : List Int), k ≤ p.length ∧ iv = .int .i64 k ∧ IBlk wr w.heap.size L ∧ Hid (L.length = p.length) ∧ Hid (Kp.Done p q L k) ∧ Below w.heap.size w wr) (fun iv _ => p.length - (intOf iv).toNat)
  case atStart => exact ⟨0, _, Nat.zero_le _, rfl, IBlk.new_ _ _, Lib.hid (by simp), Lib.hid (fun i hi => absurd hi (Nat.not_lt_zero _)), newB1 w _⟩
  case round =>
    obtain ⟨k, L, hk, rfl, hrow, hLL, hD, hbel⟩ := hrel
    by_cases hlt : k < p.length
    · obtain ⟨b1, off1, x, rfl, hbb1, hc1, hx⟩ := ha.at_ hlt
      obtain ⟨b2, off2, y, rfl, hbb2, hc2, hy⟩ := hb.at_ (k := k) (by rw [← hL.out]; exact hlt)
      have hxl : Hid (x = Kp.lab p k) := Lib.hid hx.out.1
      have hyl : Hid (y = Kp.lab q k) := Lib.hid hy.out.1
      have hkq : (k : Int) < (q.length : Int) := by have := hL.out; omega
      have hkL : k < L.length := by rw [hLL.out]; exact hlt
      have hcg := hrow.cell hkL
      have hfg := hrow.frozen k
      have hset := hrow.set_ k (k : Int)
      have hbel' := hbel.setCell (p := ⟨w.heap.size, k, none⟩) (Nat.le_refl _) (.int .i64 (k : Int))
      clear hc1 hc2
      go_wp2_with fail
      go_loopw [9] (fun jv wr => ∃ (j v : Nat) (z : Int), j ≤ k ∧ jv = .int .i64 z ∧ z = (j : Int) - 1 ∧ IBlk wr w.heap.size (L.set k (v : Int)) ∧ Hid (Kp.MSp p q k j v) ∧ Below w.heap.size w wr) (fun jv _ => (intOf jv + 1).toNat)
      case atStart => exact ⟨k, k, _, Nat.le_refl _, rfl, rfl, hset, Lib.hid (Kp.MSp.start p q k), hbel'⟩
      case round =>
        clear hset hbel' hcg hfg hrow hbel
        obtain ⟨j, v, z, hj, rfl, hz, hrow, hM, hbel⟩ := hrel
        rcases j with _ | m
        · have hz2 : z < 0 := by omega
          have hz3 : ¬ z ≥ 0 := by omega
          clear hz
          have hD' := Lib.hid (Kp.Done.next hD.out hkL hM.out)
          have hLL' : Hid ((L.set k (v : Int)).length = p.length) := Lib.hid (by rw [List.length_set]; exact hLL.out)
          go_wp2_with fail
          go_roundw
          case rel => exact ⟨k + 1, _, by omega, by go_num, hrow, hLL', hD', hbel⟩
          case measure => simp [intOf]; omega
        · obtain rfl : z = (m : Int) := by omega
          clear hz
          obtain ⟨_, _, x1, hA, _, hc1, hx1⟩ := (ha.below hbel).at_ hlt
          cases hA
          obtain rfl : x1 = x := by rw [hx1.out.1, hx.out.1]
          obtain ⟨_, _, y1, hA, _, hc2, hy1⟩ := (hb.below hbel).at_ (k := k) (by rw [← hL.out]; exact hlt)
          cases hA
          obtain rfl : y1 = y := by rw [hy1.out.1, hy.out.1]
          obtain ⟨_, _, x2, hA, _, hc3, hx2⟩ := (ha.below hbel).at_ (k := m) (by omega)
          cases hA
          obtain ⟨_, _, y2, hA, _, hc4, hy2⟩ := (hb.below hbel).at_ (k := m) (by rw [← hL.out]; omega)
          cases hA
          have hxl2 : Hid (x2 = Kp.lab p m) := Lib.hid hx2.out.1
          have hyl2 : Hid (y2 = Kp.lab q m) := Lib.hid hy2.out.1
          have hjp : (m : Int) < (p.length : Int) := by omega
          have hjq : (m : Int) < (q.length : Int) := by omega
          have hcg := hrow.cell (k := k) (by rw [List.length_set]; exact hkL)
          have hfg := hrow.frozen k
          by_cases hxx : x2 = x1
          · by_cases hyy : y2 = y1
            · have h1 : (x2 == x1) = true := by simpa using hxx
              have h2 : (y2 == y1) = true := by simpa using hyy
              have hM' : Hid (Kp.MSp p q k m m) := Lib.hid (hM.out.hit (by omega) ⟨by rw [← hxl.out, ← hxl2.out]; exact hxx, by rw [← hyl.out, ← hyl2.out]; exact hyy⟩)
              have hset : ∀ n, IBlk ((wr.drewN n).setCell ⟨w.heap.size, k, none⟩ (.int .i64 (m : Int))) w.heap.size (L.set k (m : Int)) := fun n => by
                have := (hrow.drewN n).set_ k (m : Int)
                rw [set_set_] at this
                exact this
              have hbl : ∀ n, Below w.heap.size w ((wr.drewN n).setCell ⟨w.heap.size, k, none⟩ (.int .i64 (m : Int))) := fun n => (bDrew hbel n).setCell (p := ⟨w.heap.size, k, none⟩) (Nat.le_refl _) _
              have HS := Lib.hid hset
              have HB := Lib.hid hbl
              clear hxx hyy hset hbl
              go_wp2_with fail
              go_quiet (fail)
              go_wp2_with fail
              go_roundw
              case rel => exact ⟨m, m, (m : Int) - 1, by omega, rfl, rfl, HS.out _, hM', HB.out _⟩
              case measure => simp [intOf]
            · have h1 : (x2 == x1) = true := by simpa using hxx
              have h2 : (y2 == y1) = false := by simpa using hyy
              have hM' : Hid (Kp.MSp p q k m v) := Lib.hid (hM.out.miss (fun ht => hyy (by rw [hyl.out, hyl2.out]; exact ht.2)))
              clear hxx hyy
              go_wp2_with fail
              go_quiet (fail)
              go_wp2_with fail
              go_roundw
              case rel => exact ⟨m, v, (m : Int) - 1, by omega, rfl, rfl, hrow.drewN _, hM', bDrew hbel _⟩
              case measure => simp [intOf]
          · have h1 : (x2 == x1) = false := by simpa using hxx
            have hM' : Hid (Kp.MSp p q k m v) := Lib.hid (hM.out.miss (fun ht => hxx (by rw [hxl.out, hxl2.out]; exact ht.1)))
            clear hxx
            go_wp2_with fail
            go_quiet (fail)
            go_wp2_with fail
            go_roundw
            case rel => exact ⟨m, v, (m : Int) - 1, by omega, rfl, rfl, hrow.drewN _, hM', bDrew hbel _⟩
            case measure => simp [intOf]
    · obtain rfl : k = p.length := by omega
      have hM : Hid (Kp.IsMeet p q (Kp.ofL L)) := Lib.hid (Kp.msp_meet hLL.out hD.out)
      have hI := hrow.ints (B := wr.heap.size) hrow.lt (Kp.Done.bd (by rw [hLL.out]; exact hD.out) (by rw [hLL.out]; exact hlp))
      have hof := rof_any (some ⟨w.heap.size, 0, none⟩) p.length L wr hI (by rw [hLL.out]; exact hlp)
      rw [hLL.out] at hof
      go_wp2_with fail
      refine hof.mono ?_
      rintro e w3 ⟨A3, c3, rfl, hI3, hB3⟩
      go_wp2_with fail
      go_ret2
      exact ⟨_, A3, c3, hM.out, rfl, hI3, bTrans hbel hB3⟩
end Go.Proofs.Ytdfkgkgglldokaa
