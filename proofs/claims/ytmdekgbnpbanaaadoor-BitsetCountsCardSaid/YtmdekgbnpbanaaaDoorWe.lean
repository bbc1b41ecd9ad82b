/- Walks: the reference's Flags and Make. -/
import Derived.Test.YtmdekgbnpbanaaaDoorW9
namespace Go.Proofs.YtmdekgbnpbanaaaDoor
open Go.RowKit
set_option linter.unusedVariables false

/-- flags as cells -/
def bcells (f : Nat → Bool) (k : Nat) : List Value := (List.range k).map fun i => Value.bool (f i)
theorem bcells_length (f : Nat → Bool) (k : Nat) : (bcells f k).length = k := by simp [bcells]
theorem bcells_succ (f : Nat → Bool) (k : Nat) : bcells f (k + 1) = bcells f k ++ [.bool (f k)] := by simp [bcells, List.range_succ]
theorem infoBool : (Tryd.prog.info? 4).map (fun i => (i.zero, i.size, i.bytes)) = some (some (.bool false), 1, 1) := by kernel_rfl
theorem infoU64 : (Tryd.prog.info? 48).map (fun i => (i.zero, i.size, i.bytes)) = some (some (.int .u64 0), 1, 8) := by kernel_rfl

/-- Flags' world in the loop -/
structure FlInv (w wr : World) (x y : Value) (v : Value) (k : Nat) (f : Nat → Bool) : Prop where
  t1 : Two wr w.heap.size x y
  own : wr.ownsRow (w.heap.size + 1) 4 1 v k (bcells f k)
  hz : w.heap.size + 1 ≤ wr.heap.size
  bel : Below w.heap.size w wr
theorem FlInv.drewN {w wr : World} {x y v : Value} {k : Nat} {f : Nat → Bool} (h : FlInv w wr x y v k f) (m : Nat) : FlInv w (wr.drewN m) x y v k f :=
  ⟨h.t1.drewN m, own_below h.own ⟨rfl, rfl, rfl, Nat.le_refl _, fun _ _ => rfl⟩, h.hz, bDrew h.bel m⟩
theorem FlInv.grown {w wr w3 : World} {x y v v' : Value} {k : Nat} {f : Nat → Bool} {o : Obj} (h : FlInv w wr x y v k f)
    (ho : w3.ownsRow (w.heap.size + 1) 4 1 v' (k + 1) (bcells f k ++ [.bool (f k)])) (hg : (wr.alloc o).grownBy w3 v.ownBlock) : FlInv w w3 x y v' (k + 1) f where
  t1 := by
    obtain ⟨T, hT⟩ := (h.t1.alloc o).blk
    have hne : some w.heap.size ≠ v.ownBlock := fun e => by
      have := (h.own.lt _ e.symm).1; omega
    exact ⟨T, (hg.block _ (h.t1.alloc o).lt hne).trans hT⟩
  own := by rw [bcells_succ]; exact ho
  hz := by have := hg.size; have := h.hz; simp at *; omega
  bel := (h.bel.alloc (by have := h.hz; omega) o).grown hg (by have := h.hz; simp; omega) (fun k e => by have := (h.own.lt k e).1; omega)

set_option maxRecDepth 100000 in
set_option maxHeartbeats 1000000 in
theorem flags_ok (n : Nat) (A : Option Addr) (c : Nat) (ws : List Nat) (w : World) (h : Words w w.heap.size A ws) (hl : ws.length ≤ 64) (hn : n ≤ 4096) :
    Calls Tryd.prog 52 #[setV n A ws.length c] w fun e w' => ∃ A' c', e = .returned (.slice A' n c') ∧ w'.ownsRow (w.heap.size + 1) 4 1 (.slice A' n c') n (bcells (Kb.bitAt ws) n) ∧ Below w.heap.size w w' := by
  unfold setV
  obtain ⟨i0, hi, hz0, hz1, hz2⟩ := info_parts infoBool
  go_enter Tryd.func52, Tryd.ntmps52
  go_wp2_with fail
  have hinv : FlInv w ((w.alloc (.cells #[.int .i64 (n : Int), .slice A ws.length c] 24)).alloc (.cells #[] 4)) (.int .i64 (n : Int)) (.slice A ws.length c) (.slice (some ⟨w.heap.size + 1, 0, none⟩) 0 0) 0 (Kb.bitAt ws) :=
    ⟨(Two.new_ _ _ _ _).alloc _, by simpa [bcells] using World.ownsRow_made (e := 4) (size := 1) (base := w.heap.size + 1) (w.alloc (.cells #[.int .i64 (n : Int), .slice A ws.length c] 24)) #[] 0 (by simp) (by unfold maxLen; omega) rfl, by simp, (by repeat (first | exact Below.refl _ _ | refine bDrew ?_ _ | refine Below.drew ?_ | refine Below.alloc ?_ (by simp) _ | refine Below.setCell ?_ (by simp) _))⟩
  go_loopw [3, 4] (fun v kv wr => ∃ k : Nat, k ≤ n ∧ kv = .int .i64 k ∧ FlInv w wr (.int .i64 (n : Int)) (.slice A ws.length c) v k (Kb.bitAt ws)) (fun _ kv _ => n - (intOf kv).toNat)
  case atStart => exact ⟨0, Nat.zero_le _, rfl, hinv⟩
  case round =>
    obtain ⟨k, hk, rfl, hinv⟩ := hrel
    have c10 := hinv.t1.c0
    have c11 := hinv.t1.c1
    by_cases hlt : k < n
    · go_wp2_with fail
      refine (bit_any A c k ws _ _ (h.below hinv.bel) (by omega) (by omega)).mono ?_
      rintro e w2 ⟨rfl, m, rfl⟩
      obtain ⟨f, hf⟩ : ∃ f, Hid (Kb.bitAt ws k = f) := ⟨_, Lib.hid rfl⟩
      rw [hf.out]
      have hinv2 := hinv.drewN m
      clear hinv c10 c11
      revert hinv2
      generalize wr.drewN m = wm
      intro hinv2
      go_wp2_with (at_builtin; refine wpList_append_own _ rfl _ _ 51 rfl (w.heap.size + 1) 4 i0 (.bool false) 1 1 Tryd.underlying51 hi hz0 hz1 hz2 rfl (by decide) _ _ _ rfl (hinv2.own.alloc _) ⟨wm.heap.size, 0, none⟩ 1 1 [.bool f] rfl rfl ?c1 ?c2 ?c3 ?c4 ?c5 ?_)
      case c1 => exact cell_one_new _ _ _
      case c2 => intro u hu; simp at hu; subst hu; rfl
      case c3 => unfold maxLen; omega
      case c4 => omega
      case c5 => have := hinv2.hz; simp; omega
      intro v' w3 hown' hgrow _
      have hinv3 := FlInv.grown hinv2 (by rw [hf.out]; exact hown') hgrow
      clear hown' hgrow hinv2
      go_wp2_with fail
      go_roundw
      case rel => exact ⟨k + 1, by omega, by go_num, hinv3⟩
      case measure => simp [intOf]; omega
    · obtain rfl : k = n := by omega
      go_wp2_with fail
      go_ret
      obtain ⟨A', c', hv⟩ := own_slice hinv.own
      refine ⟨A', c', ?_, ?_, hinv.bel⟩
      · show Ending.returned _ = _
        rw [← hv]; rfl
      · have ho := hinv.own
        rw [hv] at ho
        exact ho
end Go.Proofs.YtmdekgbnpbanaaaDoor
