/- Walks: the package's appendDigit: ten times the magnitude plus a digit, in its memory. -/
import Derived.Test.YtmhfdmidaheoeaaDoorWd
import Derived.Lib.SmallJoins
namespace Go.Proofs.YtmhfdmidaheoeaaDoor
open Go.RowKit
set_option linter.unusedVariables false

/-- a store into a row of words that is owned -/
theorem own_set {w : World} {base g n c k x : Nat} {ws : List Nat} (h : w.ownsRow base 39 1 (.slice (some ⟨g, 0, none⟩) n c) n (u32s ws)) :
    (w.setCell ⟨g, k, none⟩ (.int .u32 (x : Int))).ownsRow base 39 1 (.slice (some ⟨g, 0, none⟩) n c) n (u32s (ws.set k x)) := by
  rcases h.2 with ⟨e0, _⟩ | ⟨g', cap', cur, e0, hb, hg, hn, hm, hs, ht⟩
  · cases e0
  · injection e0 with e1 _ e3
    injection e1 with e1
    injection e1 with e1
    subst e1; subst e3
    refine ⟨by have := h.1; unfold u32s at this ⊢; simpa using this, .inr ⟨g, c, cur.setIfInBounds k (.int .u32 (x : Int)), rfl, hb, ?_, hn, hm, by simpa using hs, ?_⟩⟩
    · simp [World.setCell, Array.getElem?_modify, hg]
    · rw [Array.toList_setIfInBounds, List.take_set, ht]
      unfold u32s
      rw [List.map_set]
theorem own_cell {w : World} {base g n c k : Nat} {ws : List Nat} (h : w.ownsRow base 39 1 (.slice (some ⟨g, 0, none⟩) n c) n (u32s ws)) (hk : k < ws.length) :
    w.cell? ⟨g, k, none⟩ = some (.int .u32 ((ws.getD k 0 : Nat) : Int)) := by
  have h1 := h.cells (g := g) rfl k (.int .u32 ((ws.getD k 0 : Nat) : Int)) (by
    unfold u32s
    rw [List.getElem?_map, List.getElem?_eq_getElem hk, List.getD_eq_getElem?_getD, List.getElem?_eq_getElem hk]; rfl)
  have e : (⟨g, 0, none⟩ : Addr).add k = ⟨g, k, none⟩ := by unfold Addr.add; split <;> simp_all
  rwa [e] at h1
theorem own_fz {w : World} {base g n c k : Nat} {xs : List Value} (h : w.ownsRow base 39 1 (.slice (some ⟨g, 0, none⟩) n c) n xs) : w.frozen? ⟨g, k, none⟩ = false := by
  rcases h.2 with ⟨e0, _⟩ | ⟨g', cap', cur, e0, hb, hg, hn, hm, hs, ht⟩
  · cases e0
  · injection e0 with e1 _ e3
    injection e1 with e1
    injection e1 with e1
    subst e1
    exact frozen_of_row w g k _ _ hg
theorem own_ge32 {w : World} {base g n c : Nat} {xs : List Value} (h : w.ownsRow base 39 1 (.slice (some ⟨g, 0, none⟩) n c) n xs) : base ≤ g := (h.lt g rfl).1

/-- a row of words that a caller owns, as the call finds it later -/
structure Ad (base : Nat) (w wr : World) (v : Value) (n : Nat) (l : List Nat) : Prop where
  own : wr.ownsRow base 39 1 v n (u32s l)
  len : l.length = n
  wd : Kn.Wd l
  hz : base ≤ wr.heap.size
  bel : Below base w wr
theorem Ad.put {base g n c k x : Nat} {w wr : World} {l : List Nat} (h : Ad base w wr (.slice (some ⟨g, 0, none⟩) n c) n l) (hx : x < 4294967296) : Ad base w (wr.setCell ⟨g, k, none⟩ (.int .u32 (x : Int))) (.slice (some ⟨g, 0, none⟩) n c) n (l.set k x) :=
  ⟨own_set h.own, by rw [List.length_set]; exact h.len, h.wd.set k hx, by simpa [World.setCell] using h.hz, h.bel.setCell (p := ⟨g, k, none⟩) (own_ge32 h.own) _⟩
theorem Ad.grown {base n x : Nat} {w wr w3 : World} {v v' : Value} {l : List Nat} {o : Obj} (h : Ad base w wr v n l) (hx : x < 4294967296)
    (ho : w3.ownsRow base 39 1 v' (n + 1) (u32s l ++ [.int .u32 (x : Int)])) (hg : (wr.alloc o).grownBy w3 v.ownBlock) : Ad base w w3 v' (n + 1) (l ++ [x]) := by
  have hz := h.hz
  have hge : ∀ k, v.ownBlock = some k → base ≤ k := fun k e => (h.own.lt k e).1
  refine ⟨by rw [u32s_snoc]; exact ho, by rw [List.length_append, h.len]; rfl, h.wd.append (Kn.Wd.cons hx Kn.Wd.nil), by have := hg.size; simp at this; omega, (h.bel.alloc hz o).grown hg (by simp; omega) hge⟩

theorem getD_of_drop {l m : List Nat} {k : Nat} (h : l.drop k = m.drop k) : l.getD k 0 = m.getD k 0 := by
  have h1 := congrArg (fun x : List Nat => x.getD 0 0) h
  simpa [List.getD_eq_getElem?_getD, List.getElem?_drop] using h1
theorem drop_next {l m : List Nat} {k : Nat} (h : l.drop k = m.drop k) : l.drop (k + 1) = m.drop (k + 1) := by
  have h1 := congrArg (fun x : List Nat => x.drop 1) h
  simpa [List.drop_drop] using h1
/-- what appendDigit hands back -/
def AdRes (base : Nat) (ws : List Nat) (d : Nat) (w : World) (e : Ending) (w' : World) : Prop :=
  ∃ v ws', e = .returned v ∧ Ad base w w' v ws'.length ws' ∧ Kn.val ws' = 10 * Kn.val ws + d ∧ ws'.length ≤ ws.length + 1

set_option maxRecDepth 100000 in
set_option maxHeartbeats 2000000 in
theorem appendDigit_any (base : Nat) (v : Value) (ws : List Nat) (d : Nat) (w : World) (I0 : Ad base w w v ws.length ws) (hl : ws.length ≤ 1000000) (hd : d ≤ 9) :
    Calls Tryd.prog 52 #[v, .int .u8 ((d : Int) + 48)] w (AdRes base ws d w) := by
  obtain ⟨i0, hi, hz0, hz1, hz2⟩ := info_parts infoU32
  obtain ⟨A, c, rfl, hc⟩ := own_slice I0.own
  go_enter Tryd.func52, Tryd.ntmps52
  go_wp2_with fail
  go_loopw [5, 13] (fun cv iv wr => ∃ k cr l, k ≤ ws.length ∧ iv = .int .i64 (k : Nat) ∧ cv = .int .u64 (cr : Nat) ∧ cr ≤ 9 ∧ Ad base w wr (.slice A ws.length c) ws.length l ∧ Hid (l.drop k = ws.drop k ∧ Kn.val (l.take k) + Kn.pw k * cr = 10 * Kn.val (ws.take k) + d)) (fun _ iv _ => ws.length - (intOf iv).toNat)
  case atStart => exact ⟨0, d, ws, Nat.zero_le _, rfl, by go_num, hd, I0, Lib.hid ⟨rfl, by simp [Kn.val, Kn.pw]⟩⟩
  case round =>
    obtain ⟨k, cr, l, hk, rfl, rfl, hcr, I, HI⟩ := hrel
    by_cases hlt : k < ws.length
    · obtain ⟨g, cap, hv⟩ := Go.Joins.ownsRow_form I.own (by omega)
      injection hv with hv1 _ hv3
      subst hv1
      subst hv3
      have hll := I.len
      have hc0 := own_cell I.own (k := k) (by omega)
      have hf0 := own_fz (k := k) I.own
      obtain ⟨x, hx⟩ : ∃ x, Hid (x = l.getD k 0) := ⟨_, Lib.hid rfl⟩
      rw [← hx.out] at hc0
      have hxl : x < 4294967296 := by rw [hx.out]; exact I.wd.getD _
      obtain ⟨m, hmm⟩ : ∃ m, m = (cr + 10 * x) % 4294967296 := ⟨_, rfl⟩
      obtain ⟨q, hqq⟩ : ∃ q, q = (cr + 10 * x) / 4294967296 := ⟨_, rfl⟩
      have hm : m < 4294967296 := by omega
      have hq : q ≤ 9 := by omega
      have em : ((cr : Int) + 10 * (x : Int)) % 4294967296 = (m : Int) := by omega
      have eq : ((cr : Int) + 10 * (x : Int)) / 4294967296 = (q : Int) := by omega
      have HN : Hid ((l.set k m).drop (k + 1) = ws.drop (k + 1) ∧ Kn.val ((l.set k m).take (k + 1)) + Kn.pw (k + 1) * q = 10 * Kn.val (ws.take (k + 1)) + d) := Lib.hid (by
        obtain ⟨h1, h2⟩ := HI.out
        refine ⟨by rw [Kn.drop_set _ _ (by omega)]; exact drop_next h1, ?_⟩
        rw [Kn.val_set_take _ _ (by omega), Kn.val_take_succ _ hlt, ← getD_of_drop h1, ← hx.out]
        have e : m + 4294967296 * q = cr + 10 * x := by omega
        have e2 : Kn.pw k * m + Kn.pw (k + 1) * q = Kn.pw k * cr + 10 * (Kn.pw k * x) := by
          rw [Kn.pw_succ, Nat.mul_comm 4294967296 (Kn.pw k), Nat.mul_assoc, ← Nat.mul_add, e, Nat.mul_add, Nat.mul_left_comm]
        omega)
      have J := I.put (k := k) hm
      clear hmm hqq HI hll
      go_wp2_with fail
      go_roundw
      case rel => exact ⟨k + 1, q, l.set k m, by omega, by go_num, rfl, hq, J, HN⟩
      case measure => simp [intOf]; omega
    · obtain rfl : k = ws.length := by omega
      have hll := I.len
      have HV : Hid (Kn.val l + Kn.pw ws.length * cr = 10 * Kn.val ws + d) := Lib.hid (by
        have h := HI.out.2
        rw [List.take_of_length_le (by omega), List.take_length] at h
        exact h)
      by_cases hc0 : cr = 0
      · have hz : ((cr : Int) != 0) = false := by rw [hc0]; rfl
        have HC := Lib.hid hc0
        have HL := Lib.hid hll
        clear hc0 hll HI
        go_wp2_with fail
        go_ret
        refine ⟨_, l, rfl, by rw [HL.out]; exact I, ?_, by rw [HL.out]; omega⟩
        have h := HV.out
        rw [HC.out, Nat.mul_zero, Nat.add_zero] at h
        exact h
      · have hz : ((cr : Int) != 0) = true := by rw [bne_iff_ne]; omega
        have em : (cr : Int) % 4294967296 = (cr : Int) := by omega
        have HL := Lib.hid hll
        clear hc0 hll HI
        have ho := I.own
        go_wp2_with (at_builtin; refine wpList_append_own _ rfl _ _ 22 rfl base 39 i0 (.int .u32 0) 1 4 Tryd.underlying22 hi hz0 hz1 hz2 rfl (by decide) _ _ _ rfl (ho.alloc _) ⟨_, 0, none⟩ 1 1 [.int .u32 (cr : Int)] rfl rfl ?c31 ?c32 ?c33 ?c34 ?c35 ?_)
        try (case c31 => exact cell_one_new _ _ _)
        try (case c32 => first | rfl | (intro u hu; simp at hu; subst hu; rfl))
        try (case c33 => first | omega | (unfold maxLen; omega))
        try (case c34 => omega)
        try (case c35 => have := I.hz; first | omega | (simp; omega))
        intro v' w3 hown' hgrow _
        have J := I.grown (x := cr) (by omega) hown' hgrow
        clear hown' hgrow ho
        go_wp2_with fail
        go_ret
        refine ⟨_, l ++ [cr], rfl, by rw [List.length_append, HL.out]; exact J, ?_, by rw [List.length_append, HL.out]; simp⟩
        rw [Kn.val_append, HL.out, Kn.val_one]
        exact HV.out
end Go.Proofs.YtmhfdmidaheoeaaDoor
