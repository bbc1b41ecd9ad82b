/- Walks: the reference's Members (out of wip/bit, written by gen/mkbt.py). -/
import Derived.Test.YtckenemkfegopaaDoorW9
import Derived.Test.YtckenemkfegopaaDoorW3
namespace Go.Proofs.YtckenemkfegopaaDoor
open Go.RowKit
set_option linter.unusedVariables false

namespace Kb
theorem membersTo_mem {f : Nat → Bool} {n x : Nat} : x ∈ membersTo f n ↔ x < n ∧ f x = true := by
  unfold membersTo; rw [List.mem_filter, List.mem_range]
end Kb
theorem ints_of_own {w : World} {base : Nat} {A : Option Addr} {c : Nat} {L : List Nat} (h : w.ownsRow base 3 1 (.slice A L.length c) L.length (icells L)) (hL : ∀ x ∈ L, x ≤ 4096) : Ints w w.heap.size A (L.map fun (x : Nat) => (x : Int)) where
  row := by
    have e : (L.map fun (x : Nat) => (x : Int)).map (fun x => Value.int .i64 x) = icells L := by simp [icells]
    rw [e]
    exact Row.of_own h
  lo := fun x hx => by
    obtain ⟨y, hy, rfl⟩ := List.mem_map.1 hx
    have := hL y hy
    omega

/-- the members, none of what is no set -/
def memL (sz : Int) (ws : List Nat) : List Nat := if Kb.validB sz ws then Kb.membersTo (Kb.bitAt ws) sz.toNat else []
theorem memL_bad {sz : Int} {ws : List Nat} (h : Kb.validB sz ws = false) : memL sz ws = [] := by unfold memL; rw [h]; rfl
theorem memL_ok {n : Nat} {ws : List Nat} (h : Kb.validB n ws = true) : memL n ws = Kb.membersTo (Kb.bitAt ws) n := by unfold memL; rw [h, if_pos rfl, Int.toNat_natCast]
theorem memL_le (sz : Int) (ws : List Nat) : (memL sz ws).length ≤ 4096 ∧ ∀ x ∈ memL sz ws, x ≤ 4096 := by
  by_cases h : Kb.validB sz ws = true
  · have hs : sz.toNat ≤ 4096 := by
      unfold Kb.validB at h
      simp only [Bool.and_eq_true, decide_eq_true_eq] at h
      omega
    unfold memL
    rw [if_pos h]
    refine ⟨Nat.le_trans (Kb.membersTo_le _ _) hs, fun x hx => ?_⟩
    have := (Kb.membersTo_mem.1 hx).1
    omega
  · rw [memL_bad (by simpa using h)]; simp

/-- numbers as ints -/
def zL (L : List Nat) : List Int := L.map fun (x : Nat) => (x : Int)
theorem zL_length (L : List Nat) : (zL L).length = L.length := by simp [zL]
/-- what Members hands back -/
def MemRes (L : List Nat) (w : World) (e : Ending) (w' : World) : Prop :=
  ∃ A c, e = .returned (.slice A (zL L).length c) ∧ Ints w' w'.heap.size A (zL L) ∧ Below w.heap.size w w'
set_option maxRecDepth 100000 in
set_option maxHeartbeats 1000000 in
theorem rmembers_bad (sz : Int) (A : Option Addr) (c : Nat) (ws : List Nat) (w : World) (h : Words w w.heap.size A ws) (hl : ws.length ≤ 140737488351232) (hv : Kb.validB sz ws = false) :
    Calls Tryd.prog 94 #[.agg #[.int .i64 sz, .slice A ws.length c]] w (MemRes [] w) := by
  have hV := Lib.hid hv
  clear hv
  have hB0 : Below w.heap.size w ((w.alloc (.cells #[.int .i64 sz, .slice A ws.length c] 46)).alloc (.cells #[] 3)) := ((Below.refl _ _).alloc (Nat.le_refl _) _).alloc (by simp) _
  go_enter Tryd.func94, Tryd.ntmps94
  go_wp2_with fail
  refine (rvalid_any sz A c ws _ ((h.below hB0).more hB0.size) hl).mono ?_
  rintro e w1 ⟨rfl, hb⟩
  rw [hV.out]
  go_wp2_with fail
  go_ret
  exact ⟨some ⟨w.heap.size + 1, 0, none⟩, 0, rfl, ⟨Row.nil _ _ _, by simp [zL]⟩, hB0.trans (hb.mono hB0.size)⟩

set_option maxRecDepth 100000 in
set_option maxHeartbeats 1000000 in
theorem rmembers_ok (n : Nat) (A : Option Addr) (c : Nat) (ws : List Nat) (w : World) (h : Words w w.heap.size A ws) (hok : Kb.Ok n ws) (hn : n ≤ 4096) :
    Calls Tryd.prog 94 #[.agg #[.int .i64 (n : Int), .slice A ws.length c]] w (MemRes (Kb.membersTo (Kb.bitAt ws) n) w) := by
  obtain ⟨i0, hi, hz0, hz1, hz2⟩ := info_parts infoInt
  have hl : ws.length ≤ 64 := by rw [hok.len]; unfold Kb.nw; omega
  have hv : Hid (Kb.validB n ws = true) := Lib.hid ((Kb.validB_iff h.lt).2 ⟨by omega, by omega, hok⟩)
  go_enter Tryd.func94, Tryd.ntmps94
  go_wp2_with fail
  have hinv : MeInv w ((w.alloc (.cells #[.int .i64 (n : Int), .slice A ws.length c] 46)).alloc (.cells #[] 3)) n c A ws.length (.slice (some ⟨w.heap.size + 1, 0, none⟩) 0 0) [] :=
    ⟨(Two.new_ _ _ _ _).alloc _, by simpa [icells] using World.ownsRow_made (e := 3) (size := 1) (base := w.heap.size + 1) (w.alloc (.cells #[.int .i64 (n : Int), .slice A ws.length c] 46)) #[] 0 (by simp) (by unfold maxLen; omega) rfl, by simp, (by repeat (first | exact Below.refl _ _ | refine bDrew ?_ _ | refine Below.drew ?_ | refine Below.alloc ?_ (by simp) _ | refine Below.setCell ?_ (by simp) _))⟩
  refine (rvalid_any n A c ws _ ((h.below hinv.bel).more (Nat.le_of_succ_le hinv.hz)) (by omega)).mono ?_
  rintro e w1 ⟨rfl, hb⟩
  rw [hv.out]
  have hinv1 := hinv.below hb
  clear hinv hb
  go_wp2_with fail
  go_loopw [3, 4] (fun v kv wr => ∃ k : Nat, k ≤ n ∧ kv = .int .i64 k ∧ MeInv w wr n c A ws.length v (Kb.membersTo (Kb.bitAt ws) k)) (fun _ kv _ => n - (intOf kv).toNat)
  case atStart => exact ⟨0, Nat.zero_le _, rfl, hinv1⟩
  case round =>
    obtain ⟨k, hk, rfl, hinv⟩ := hrel
    have c10 := hinv.t1.c0
    have c11 := hinv.t1.c1
    by_cases hlt : k < n
    · go_wp2_with fail
      refine (bit_any A c k ws _ _ (h.below hinv.bel) (by omega) (by omega)).mono ?_
      rintro e w2 ⟨rfl, m, rfl⟩
      have hinv2 : MeInv w (wr.drewN m) n c A ws.length u3 (Kb.membersTo (Kb.bitAt ws) k) := hinv.below ⟨rfl, rfl, rfl, Nat.le_refl _, fun _ _ => rfl⟩
      clear hinv c10 c11
      revert hinv2
      generalize wr.drewN m = wm
      intro hinv2
      have hs := Kb.membersTo_succ (Kb.bitAt ws) k
      have hle := Kb.membersTo_le (Kb.bitAt ws) k
      cases hf : Kb.bitAt ws k with
      | true =>
        rw [hf, if_pos rfl] at hs
        have hS := Lib.hid hs
        have hF := Lib.hid hf
        clear hs hf
        go_wp2_with (at_builtin; refine wpList_append_own _ rfl _ _ 86 rfl (w.heap.size + 1) 3 i0 (.int .i64 0) 1 8 Tryd.underlying86 hi hz0 hz1 hz2 rfl (by decide) _ _ _ rfl (hinv2.own.alloc _) ⟨wm.heap.size, 0, none⟩ 1 1 [.int .i64 (k : Int)] rfl rfl ?c1 ?c2 ?c3 ?c4 ?c5 ?_)
        case c1 => exact cell_one_new _ _ _
        case c2 => intro u hu; simp at hu; subst hu; rfl
        case c3 => unfold maxLen; omega
        case c4 => omega
        case c5 => have := hinv2.hz; simp; omega
        intro v' w3 hown' hgrow _
        have hinv3 : MeInv w w3 n c A ws.length v' (Kb.membersTo (Kb.bitAt ws) (k + 1)) := by
          rw [hS.out]
          exact MeInv.grown hinv2 hown' hgrow
        clear hown' hgrow hinv2
        go_wp2_with fail
        go_roundw
        case rel => exact ⟨k + 1, by omega, by go_num, hinv3⟩
        case measure => simp [intOf]; omega
      | false =>
        rw [hf, if_neg (by decide), List.append_nil] at hs
        have hinv3 : MeInv w wm n c A ws.length u3 (Kb.membersTo (Kb.bitAt ws) (k + 1)) := by rw [hs]; exact hinv2
        clear hs hf hinv2
        go_wp2_with fail
        go_roundw
        case rel => exact ⟨k + 1, by omega, by go_num, hinv3⟩
        case measure => simp [intOf]; omega
    · obtain rfl : k = n := by omega
      go_wp2_with fail
      go_ret
      obtain ⟨A', c', hv'⟩ := own_slice hinv.own
      have ho := hinv.own
      rw [hv'] at ho
      refine ⟨A', c', ?_, ints_of_own ho (fun x hx => by have := (Kb.membersTo_mem.1 hx).1; omega), hinv.bel⟩
      show Ending.returned _ = _
      rw [zL_length, ← hv']; rfl

theorem rmembers_any (sz : Int) (A : Option Addr) (c : Nat) (ws : List Nat) (w : World) (h : Words w w.heap.size A ws) (hl : ws.length ≤ 140737488351232) :
    Calls Tryd.prog 94 #[.agg #[.int .i64 sz, .slice A ws.length c]] w (MemRes (memL sz ws) w) := by
  cases hv : Kb.validB sz ws with
  | false => rw [memL_bad hv]; exact rmembers_bad sz A c ws w h hl hv
  | true =>
    obtain ⟨n, rfl⟩ := Int.eq_ofNat_of_zero_le ((Kb.validB_iff h.lt).1 hv).1
    have hok := ((Kb.validB_iff h.lt).1 hv).2.2
    rw [Int.toNat_natCast] at hok
    rw [memL_ok hv]
    exact rmembers_ok n A c ws w h hok (by have := ((Kb.validB_iff h.lt).1 hv).2.1; omega)

end Go.Proofs.YtckenemkfegopaaDoor
