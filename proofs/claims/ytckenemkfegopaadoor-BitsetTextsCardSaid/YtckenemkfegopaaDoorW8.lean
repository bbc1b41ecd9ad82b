/- Walks: Count, Least, Members. -/
import Derived.Test.YtckenemkfegopaaDoorW7
namespace Go.Proofs.YtckenemkfegopaaDoor
open Go.RowKit
set_option linter.unusedVariables false

set_option maxRecDepth 100000 in
set_option maxHeartbeats 400000 in
theorem count_ok (n : Nat) (A : Option Addr) (c : Nat) (ws : List Nat) (w : World) (h : Words w w.heap.size A ws) (hok : Kb.Ok n ws) (hn : n ≤ 4096) :
    Calls Tryd.prog 128 #[setV n A ws.length c] w fun e w' => ∃ m : Nat, m ≤ 8192 ∧ e = .returned (.int .i64 (m : Int)) ∧ Below w.heap.size w w' := by
  have hl : ws.length ≤ 64 := by rw [hok.len]; unfold Kb.nw; omega
  have hv : Hid (Kb.validB n ws = true) := Lib.hid ((Kb.validB_iff h.lt).2 ⟨by omega, by omega, hok⟩)
  unfold setV
  go_enter Tryd.func128, Tryd.ntmps128
  go_wp2_with fail
  have hX := h.alloc (Nat.le_refl _) (.cells #[.int .i64 (n : Int), .slice A ws.length c] 46)
  refine (bvalid_any n A c ws _ (hX.more (by simp)) (by omega)).mono ?_
  rintro e w1 ⟨rfl, hb⟩
  rw [hv.out]
  have t1 : Two w1 w.heap.size (.int .i64 (n : Int)) (.slice A ws.length c) := (Two.new_ _ _ _ _).below hb (by simp)
  have hB : Below w.heap.size w w1 := ((Below.refl _ _).alloc (Nat.le_refl _) _).trans (hb.mono (by simp))
  have c11 := t1.c1
  go_wp2_with fail
  go_loop [3, 12] (fun cv kv => ∃ k m : Nat, k ≤ ws.length ∧ kv = .int .i64 k ∧ m ≤ 128 * k ∧ cv = .int .i64 m) (fun _ kv => ws.length - (intOf kv).toNat)
  case atStart => exact ⟨0, 0, Nat.zero_le _, rfl, by omega, rfl⟩
  case round =>
    obtain ⟨k, m, hk, rfl, hm, rfl⟩ := hrel
    by_cases hlt : k < ws.length
    · obtain ⟨b, off, x, rfl, hbb, hc, hx⟩ := (h.below hB).at_ hlt
      go_wp2_with fail
      refine (ones_any x hx.out.2 _).mono ?_
      rintro e w' ⟨o, ho, rfl, rfl⟩
      go_wp2_with fail
      go_round
      case rel => exact ⟨k + 1, m + o, by omega, by go_num, by omega, by go_num⟩
      case measure => simp [intOf]; omega
    · go_wp2_with fail
      go_ret
      exact ⟨m, by omega, rfl, hB⟩

set_option maxRecDepth 100000 in
set_option maxHeartbeats 400000 in
theorem least_ok (n : Nat) (A : Option Addr) (c : Nat) (ws : List Nat) (w : World) (h : Words w w.heap.size A ws) (hok : Kb.Ok n ws) (hn : n ≤ 4096) (ht : Tabs w) :
    Calls Tryd.prog 129 #[setV n A ws.length c] w fun e w' => e = .returned (.int .i64 (Kb.nextFrom (Kb.bitAt ws) n 0)) ∧ Below w.heap.size w w' := by
  unfold setV
  go_enter Tryd.func129, Tryd.ntmps129
  go_wp2_with fail
  have hX := h.alloc (Nat.le_refl _) (.cells #[.int .i64 (n : Int), .slice A ws.length c] 46)
  have hT := ht.below ((Below.refl w.heap.size w).alloc (Nat.le_refl _) (.cells #[.int .i64 (n : Int), .slice A ws.length c] 46))
  refine (next_ok n A c ws (-1) _ (hX.more (by simp)) hok hn (by omega) hT).mono ?_
  rintro e w1 ⟨rfl, hb⟩
  go_wp2_with fail
  go_ret
  exact ⟨rfl, ((Below.refl _ _).alloc (Nat.le_refl _) _).trans (hb.mono (by simp))⟩

theorem makeInts (n : Nat) (hn : n ≤ 8192) (W : World) : (Instr.makeSlice 86 (.int .i64 0) (.int .i64 (n : Int))).run Tryd.prog W = .ok (.slice (some ⟨W.heap.size, 0, none⟩) 0 n) (W.alloc (.cells (madeCells #[.int .i64 0] n) 3)) := by
  obtain ⟨i, hi, hzz⟩ := Option.map_eq_some_iff.1 (show (Tryd.prog.info? 3).map (fun i => (i.zero, i.size, i.bytes)) = some (some (.int .i64 0), 1, 8) by kernel_rfl)
  simp only [Prod.mk.injEq] at hzz
  have h := run_make (P := Tryd.prog) W 86 3 i (.int .i64 0) Tryd.underlying86 hi hzz.1 .i64 .i64 0 n (by omega) (by omega) (by rw [hzz.2.2]; omega) (by omega)
  rw [hzz.2.1, show (Value.int .i64 0).cells = #[.int .i64 0] from rfl] at h
  simpa using h

theorem infoInt : (Tryd.prog.info? 3).map (fun i => (i.zero, i.size, i.bytes)) = some (some (.int .i64 0), 1, 8) := by kernel_rfl

/-- numbers as cells -/
def icells (l : List Nat) : List Value := l.map fun (x : Nat) => Value.int .i64 (x : Int)

def mMeas (n : Nat) (i : Int) : Nat := if i < 0 then 0 else n + 1 - i.toNat

theorem mMeas_nat (n i : Nat) : mMeas n (i : Int) = n + 1 - i := by
  unfold mMeas; rw [if_neg (by omega)]; omega

/-- Members' world in the loop -/
structure MeInv (w wr : World) (n c : Nat) (A : Option Addr) (len : Nat) (v : Value) (l : List Nat) : Prop where
  t1 : Two wr w.heap.size (.int .i64 (n : Int)) (.slice A len c)
  own : wr.ownsRow (w.heap.size + 1) 3 1 v l.length (icells l)
  hz : w.heap.size + 1 ≤ wr.heap.size
  bel : Below w.heap.size w wr

theorem MeInv.below {w wr wx : World} {n c : Nat} {A : Option Addr} {len : Nat} {v : Value} {l : List Nat} (h : MeInv w wr n c A len v l) (hb : Below wr.heap.size wr wx) : MeInv w wx n c A len v l where
  t1 := h.t1.below hb h.t1.lt
  own := h.own.kept (row := none) ⟨hb.os, hb.tape, hb.output, hb.size, fun k hk _ => hb.block k hk⟩ (by cases hv : v.ownBlock <;> simp)
  hz := Nat.le_trans h.hz hb.size
  bel := h.bel.trans (hb.mono (by have := h.hz; omega))

theorem own_slice {w : World} {base e n : Nat} {v : Value} {xs : List Value} (h : w.ownsRow base e 1 v n xs) : ∃ A c, v = .slice A n c := by
  rcases h.2 with ⟨rfl, rfl⟩ | ⟨g, cap, cur, rfl, _⟩
  · exact ⟨none, 0, rfl⟩
  · exact ⟨_, cap, rfl⟩

theorem MeInv.grown {w wr w3 : World} {n c j : Nat} {A : Option Addr} {len : Nat} {v v' : Value} {l : List Nat} {o : Obj} (h : MeInv w wr n c A len v l)
    (ho : w3.ownsRow (w.heap.size + 1) 3 1 v' (l.length + 1) (icells l ++ [.int .i64 (j : Int)])) (hg : (wr.alloc o).grownBy w3 v.ownBlock) : MeInv w w3 n c A len v' (l ++ [j]) where
  t1 := by
    obtain ⟨T, hT⟩ := (h.t1.alloc o).blk
    have hne : some w.heap.size ≠ v.ownBlock := fun e => by
      have := (h.own.lt _ e.symm).1; omega
    exact ⟨T, (hg.block _ (h.t1.alloc o).lt hne).trans hT⟩
  own := by
    have e : icells (l ++ [j]) = icells l ++ [.int .i64 (j : Int)] := by simp [icells]
    rw [e, List.length_append]; exact ho
  hz := by have := hg.size; have := h.hz; simp at *; omega
  bel := (h.bel.alloc (by have := h.hz; omega) o).grown hg (by have := h.hz; simp; omega) (fun k e => by have := (h.own.lt k e).1; omega)

set_option maxRecDepth 100000 in
set_option maxHeartbeats 1000000 in
theorem members_ok (n : Nat) (A : Option Addr) (c : Nat) (ws : List Nat) (w : World) (h : Words w w.heap.size A ws) (hok : Kb.Ok n ws) (hn : n ≤ 4096) (ht : Tabs w) :
    Calls Tryd.prog 92 #[setV n A ws.length c] w fun e w' => ∃ A' c', e = .returned (.slice A' (Kb.membersTo (Kb.bitAt ws) n).length c') ∧ w'.ownsRow (w.heap.size + 1) 3 1 (.slice A' (Kb.membersTo (Kb.bitAt ws) n).length c') (Kb.membersTo (Kb.bitAt ws) n).length (icells (Kb.membersTo (Kb.bitAt ws) n)) ∧ Below w.heap.size w w' := by
  unfold setV
  obtain ⟨i0, hi, hz0, hz1, hz2⟩ := info_parts infoInt
  go_enter Tryd.func92, Tryd.ntmps92
  go_wp2_with fail
  have hX := h.alloc (Nat.le_refl _) (.cells #[.int .i64 (n : Int), .slice A ws.length c] 46)
  refine (count_ok n A c ws _ (hX.more (by simp)) hok hn).mono ?_
  rintro e w1 ⟨m, hm, rfl, hb⟩
  have hmk := makeInts m hm
  have t1 : Two w1 w.heap.size (.int .i64 (n : Int)) (.slice A ws.length c) := (Two.new_ _ _ _ _).below hb (by simp)
  have hB : Below w.heap.size w w1 := ((Below.refl _ _).alloc (Nat.le_refl _) _).trans (hb.mono (by simp))
  have hz : w.heap.size < w1.heap.size := by have := hb.size; simp at this; omega
  have c10 := t1.c0
  have c11 := t1.c1
  go_wp2_with fail
  have hinv : MeInv w (w1.alloc (.cells (madeCells #[.int .i64 0] m) 3)) n c A ws.length (.slice (some ⟨w1.heap.size, 0, none⟩) 0 m) (Kb.membersTo (Kb.bitAt ws) 0) :=
    ⟨t1.alloc _, World.ownsRow_made w1 _ m hz (by unfold maxLen; omega) (by rw [size_madeCells]; omega), by simp; omega, hB.alloc (by omega) _⟩
  clear c10 c11 hmk
  revert hinv
  generalize w1.alloc (.cells (madeCells #[.int .i64 0] m) 3) = wx
  intro hinv
  have hXX := (h.below hinv.bel).more (Nat.le_of_succ_le hinv.hz)
  refine (least_ok n A c ws _ hXX hok hn (ht.below hinv.bel)).mono ?_
  rintro e w2 ⟨rfl, hb2⟩
  have hinv2 : MeInv w w2 n c A ws.length (.slice (some ⟨w1.heap.size, 0, none⟩) 0 m) (Kb.membersTo (Kb.bitAt ws) 0) := hinv.below hb2
  clear hinv
  go_wp2_with fail
  go_loopw [3, 4] (fun v iv wr => ∃ p : Nat, p ≤ n ∧ iv = .int .i64 (Kb.nextFrom (Kb.bitAt ws) n p) ∧ MeInv w wr n c A ws.length v (Kb.membersTo (Kb.bitAt ws) p)) (fun _ iv _ => mMeas n (intOf iv))
  case atStart => exact ⟨0, Nat.zero_le _, rfl, hinv2⟩
  case round =>
    obtain ⟨p, hp, rfl, hinv⟩ := hrel
    have c10 := hinv.t1.c0
    have c11 := hinv.t1.c1
    rcases Kb.nextFrom_cases (Kb.bitAt ws) n p with ⟨hnx, hno⟩ | ⟨j, hnx, hpj, hjn, hfj, hno⟩
    · have hE : Kb.membersTo (Kb.bitAt ws) p = Kb.membersTo (Kb.bitAt ws) n := (Kb.membersTo_skip _ p n hp hno).symm
      rw [hE] at hinv
      have hN := Lib.hid hno
      clear hno hE
      rw [hnx]
      clear hnx
      go_wp2_with fail
      go_ret
      obtain ⟨A', c', hv⟩ := own_slice hinv.own
      have hlen : (icells (Kb.membersTo (Kb.bitAt ws) n)).length = (Kb.membersTo (Kb.bitAt ws) n).length := by simp [icells]
      refine ⟨A', c', ?_, ?_, hinv.bel⟩
      · show Ending.returned _ = _
        rw [← hv]; rfl
      · have ho := hinv.own
        rw [hv] at ho
        exact ho
    · have hE : Kb.membersTo (Kb.bitAt ws) (j + 1) = Kb.membersTo (Kb.bitAt ws) p ++ [j] := by
        rw [Kb.membersTo_succ, hfj, if_pos rfl, Kb.membersTo_skip _ p j hpj hno]
      have hle := Kb.membersTo_le (Kb.bitAt ws) p
      have hE' := Lib.hid hE
      have hN := Lib.hid hno
      have hF := Lib.hid hfj
      clear hno hE hfj
      rw [hnx]
      clear hnx
      go_wp2_with (at_builtin; refine wpList_append_own _ rfl _ _ 86 rfl (w.heap.size + 1) 3 i0 (.int .i64 0) 1 8 Tryd.underlying86 hi hz0 hz1 hz2 rfl (by decide) _ _ _ rfl (hinv.own.alloc _) ⟨wr.heap.size, 0, none⟩ 1 1 [.int .i64 (j : Int)] rfl rfl ?c1 ?c2 ?c3 ?c4 ?c5 ?_)
      case c1 => exact cell_one_new _ _ _
      case c2 => intro u hu; simp at hu; subst hu; rfl
      case c3 => unfold maxLen; omega
      case c4 => omega
      case c5 => have := hinv.hz; simp; omega
      intro v' w3 hown' hgrow _
      have hl1 : (icells (Kb.membersTo (Kb.bitAt ws) p)).length = (Kb.membersTo (Kb.bitAt ws) p).length := by simp [icells]
      have hinv3 : MeInv w w3 n c A ws.length v' (Kb.membersTo (Kb.bitAt ws) (j + 1)) := by
        rw [hE'.out]
        exact MeInv.grown hinv hown' hgrow
      have hkeep := hinv.hz
      clear hown' hgrow hinv c10 c11
      have c10 := hinv3.t1.c0
      have c11 := hinv3.t1.c1
      go_wp2_with fail
      have hXX := (h.below hinv3.bel).more (Nat.le_of_succ_le hinv3.hz)
      refine (next_ok n A c ws j _ hXX hok hn (by omega) (ht.below hinv3.bel)).mono ?_
      rintro e w4 ⟨rfl, hb4⟩
      have hinv4 := hinv3.below hb4
      have e1 : ((j : Int) + 1).toNat = j + 1 := by omega
      rw [e1]
      clear c10 c11 hinv3
      go_wp2_with fail
      go_roundw
      case rel => exact ⟨j + 1, by omega, rfl, hinv4⟩
      case measure =>
        show mMeas n (Kb.nextFrom (Kb.bitAt ws) n (j + 1)) < mMeas n (j : Int)
        rw [mMeas_nat]
        rcases Kb.nextFrom_cases (Kb.bitAt ws) n (j + 1) with ⟨hnx, _⟩ | ⟨i, hnx, hpi, hin, _⟩
        · rw [hnx, show mMeas n (-1) = 0 from rfl]; omega
        · rw [hnx, mMeas_nat]; omega
end Go.Proofs.YtckenemkfegopaaDoor
