/- Walks: the diagram of the chapter's example is in canonical form (isReduced, IsOrdered, Check of package bdd at that diagram). -/
import Derived.Test.YtdbboeknknlolaaW8
import Derived.DeepKeys3
import Derived.Maps.Keyed
import Derived.StringKeys
import Derived.Deep.RegionLaw
import Derived.Deep.DeepCutAuto
import Derived.Laws.EntriesVeiled
namespace Go.Proofs.Ytdbboeknknlolaa
open Go.RowKit Go.Sort Go.Maps
set_option linter.unusedVariables false

/-- the nodes' cells, the diagram as the package's own form -/
abbrev ndC : Array Value := #[.int .i64 1, .int .i64 0, .int .i64 1, .int .i64 0, .int .i64 0, .int .i64 2]
abbrev dgC (lb nb : Nat) : Array Value := #[.int .i64 2, .slice (some ⟨lb, 0, none⟩) 2 2, .slice (some ⟨nb, 0, none⟩) 2 2, .int .i64 3]
theorem forkKey : Keyed Try.prog 51 := Keyed.of_law (deep_law (m := 20) (by decide) (by kernel_rfl) (by kernel_rfl) (by kernel_rfl))
theorem zeroBool (w : World) : (zeroValue 4).run Try.prog w = .ok (.bool false) w := by kernel_rfl
def k0L : List UInt8 := [0, 0, 0, 0, 0, 0, 0, 1, 0, 0, 0, 0, 0, 0, 0, 0, 0, 0, 0, 0, 0, 0, 0, 1]
def k1L : List UInt8 := [0, 0, 0, 0, 0, 0, 0, 0, 0, 0, 0, 0, 0, 0, 0, 0, 0, 0, 0, 0, 0, 0, 0, 2]
theorem key0 : keyOf Try.prog 51 (.agg #[.int .i64 1, .int .i64 0, .int .i64 1]) = some (.string k0L) := by kernel_rfl
theorem key1 : keyOf Try.prog 51 (.agg #[.int .i64 0, .int .i64 0, .int .i64 2]) = some (.string k1L) := by kernel_rfl
theorem keyNe : (Lit.string k1L) ≠ Lit.string k0L := by intro h; injection h with h; exact absurd h (by decide)
theorem keyLit (l : List UInt8) : WideAt.IsKeyLit (.string l) := by trivial
theorem at_none : (DataW.map ([] : List (Lit × DataW Unit))).atKey (.string k0L) (.lit (.bool false)) = .lit (.bool false) := rfl
theorem at_one : ((DataW.map ([] : List (Lit × DataW Unit))).put (.string k0L) (.lit (.bool true))).atKey (.string k1L) (.lit (.bool false)) = .lit (.bool false) := by
  rw [atKey_put_other keyNe]; rfl
theorem plainElem_bool_inv {P : Program} {e : TypeId} {H : Type} (he : P.underlying e = some .bool) {v : Value} {z : DataW H × List MemPlace} (h : plainElem P e v = some z) : ∃ x, v = .bool x ∧ z = (.lit (.bool x), []) := by
  unfold plainElem at h
  rw [he] at h
  cases v <;> simp at h
  exact ⟨_, rfl, h.symm⟩
/-- 'm[k]' at elements of type bool -/
theorem wpList_lookup_own_bool {H : Type} {P : Program} (w : World) {ops : Array Oper} {rest : List Oper} {o : Oper} {a : Act} {Q : Exit → Act → World → Prop}
    (hg : o.guard = none) (m x : Operand) (t : TypeId) (hop : o.op = Op.lookup t m x false)
    (k e : TypeId) (K : Keyed P k) (ht : P.underlying t = some (.map k e)) (he : P.underlying e = some .bool) (hz : (zeroValue e).run P w = .ok (.bool false) w) (b n : Nat) (D : DataW H)
    (hm : a.eval m = .map (some b)) (hown : w.ownsMap P k (plainElem P e) b n D) (key : Value) (kl : Lit) (hx : a.eval x = key) (hkey : keyOf P k key = some kl)
    (c : Bool) (hat : D.atKey kl (.lit (.bool false)) = .lit (.bool c)) (hK : wpList P ops Q rest (a.put o.dst (.bool c)) w) :
    wpList P ops Q (o :: rest) a w := by
  refine wpList_plain hg fun K' hK' => ?_
  obtain ⟨v, ps, hrun, hv⟩ := hown.lookup K ht hz (plainElem_bool he false) hkey
  obtain ⟨c', rfl, hc⟩ := plainElem_bool_inv he hv
  simp only [Prod.mk.injEq] at hc
  obtain rfl : c = c' := by
    have := hat.symm.trans hc.1
    injection this with this
    injection this
  unfold Oper.wp
  simp [execOp, hop, hm, hx, hrun, Result.andThen]
  exact hK' _ _ hK
theorem look_run {H : Type} {P : Program} (w : World) (t k e : TypeId) (K : Keyed P k) (ht : P.underlying t = some (.map k e)) (he : P.underlying e = some .bool) (hz : (zeroValue e).run P w = .ok (.bool false) w) (b n : Nat) (D : DataW H)
    (hown : w.ownsMap P k (plainElem P e) b n D) (key : Value) (kl : Lit) (hkey : keyOf P k key = some kl)
    (c : Bool) (hat : D.atKey kl (.lit (.bool false)) = .lit (.bool c)) : (Instr.lookup t (.map (some b)) key false).run P w = .ok (.bool c) w := by
  obtain ⟨v, ps, hrun, hv⟩ := hown.lookup K ht hz (plainElem_bool he false) hkey
  obtain ⟨c', rfl, hc⟩ := plainElem_bool_inv he hv
  simp only [Prod.mk.injEq] at hc
  obtain rfl : c = c' := by
    have := hat.symm.trans hc.1
    injection this with this
    injection this
  exact hrun
theorem min2_ (a b n : Int) (h : n = min a b) (ts : Array TypeId) (t : TypeId) (W : World) : (Builtin.min_ ts t #[.int .i64 a, .int .i64 b]).run Try.prog W = .ok (.int .i64 n) W := min2 a b n h ts t W
theorem beforeL (lb nb b1 b3 : Nat) (v at_ : Int) (W : World) (h3 : One W b3 (.int .i64 2)) (hat : at_ < 2) : Calls Try.prog 115 #[.int .i64 v, .int .i64 at_, .pointer (some ⟨b3, 0, none⟩), .pointer (some ⟨b1, 0, none⟩)] W fun e w' => e = .returned (.bool true) ∧ W = w' := by
  have c0 := h3.c
  go_enter Try.func115, Try.ntmps115
  go_wp2_with fail
  go_ret
  exact ⟨rfl, rfl⟩
theorem beforeN (lb nb b1 b3 : Nat) (W : World) (h3 : One W b3 (.int .i64 2)) (h1 : Blk W b1 (dgC lb nb)) (hn : Blk W nb ndC) : Calls Try.prog 115 #[.int .i64 0, .int .i64 2, .pointer (some ⟨b3, 0, none⟩), .pointer (some ⟨b1, 0, none⟩)] W fun e w' => e = .returned (.bool true) ∧ W = w' := by
  have c0 := h3.c
  have c1 := h1.c 2 rfl
  have c2 := hn.c 0 rfl
  go_enter Try.func115, Try.ntmps115
  go_wp2_with fail
  go_ret
  exact ⟨rfl, rfl⟩
theorem run_mk2 (w : World) : (Instr.makeMap 128 (some (.int .i64 2))).run Try.prog w = .ok (.map (some w.heap.size)) (w.alloc (.map #[] 0)) := by
  simp [Instr.makeMap, run_underlying Try.underlying128, go_sem]
set_option maxRecDepth 100000 in
set_option maxHeartbeats 4000000 in
theorem red_any (lb nb : Nat) (w : World) (hn : Blk w nb ndC) : Calls Try.prog 98 #[.agg #[.int .i64 2, .slice (some ⟨lb, 0, none⟩) 2 2, .slice (some ⟨nb, 0, none⟩) 2 2, .int .i64 3]] w fun r w' => r = .returned (.bool true) ∧ Below w.heap.size w w' := by
  have hmm := run_mk2
  have X1 := Blk.new_ w (dgC lb nb) 85
  have X2 := One.new_ (w.alloc (.cells (dgC lb nb) 85)) (.int .i64 2) 3
  have X1' := X1.alloc (.cells #[.int .i64 2] 3)
  have XB : Below w.heap.size w ((w.alloc (.cells (dgC lb nb) 85)).alloc (.cells #[.int .i64 2] 3)) := (al1 _ _).alloc (by rw [World.size_alloc]; omega) _
  have XN := hn.below XB hn.lt
  have hsz : (w.alloc (.cells (dgC lb nb) 85)).heap.size = w.heap.size + 1 := World.size_alloc _ _
  have hsz2 : ((w.alloc (.cells (dgC lb nb) 85)).alloc (.cells #[.int .i64 2] 3)).heap.size = w.heap.size + 2 := by rw [World.size_alloc, hsz]
  rw [hsz] at X2
  have hnl := hn.lt
  have a1 := X1.c 1 rfl
  have hwb : ∀ x : Bool, plainElem (H := Unit) Try.prog 4 (.bool x) = some (.lit (.bool x), []) := fun x => plainElem_bool Try.underlying4 x
  have hv := hwb true
  clear X1 hn hwb
  go_enter Try.func98, Try.ntmps98
  go_upto_region 2 with (fail)
  clear a1
  revert X1' X2 XB XN hsz2
  generalize (w.alloc (.cells #[.int .i64 2, .slice (some ⟨lb, 0, none⟩) 2 2, .slice (some ⟨nb, 0, none⟩) 2 2, .int .i64 3] 85)).alloc (.cells #[.int .i64 2] 3) = w1
  intro X2 X1 XB XN hsz2
  have a2 := X1.c 2 rfl
  have M0 : (w1.alloc (.map #[] 0)).ownsMap (H := Unit) Try.prog 51 (plainElem Try.prog 4) w1.heap.size 0 (.map []) := World.ownsMap_made w1 Try.prog 51 (plainElem Try.prog 4)
  go_upto_region 4 with (fail)
  clear hmm
  have X1' := X1.alloc (.map #[] 0)
  have X2' := X2.alloc (.map #[] 0)
  have XB' := XB.alloc (by omega) (.map #[] 0)
  have XN' := XN.alloc (.map #[] 0)
  have hsz3 : (w1.alloc (.map #[] 0)).heap.size = w.heap.size + 3 := by rw [World.size_alloc, hsz2]
  rw [hsz2] at M0
  clear X1 X2 XB XN a2
  revert X1' X2' XB' XN' hsz3 M0
  generalize w1.alloc (.map #[] 0) = w2
  intro M0 X1 X2 XB XN hsz3
  have a2 := X1.c 2 rfl
  go_wp2_with fail
  clear a2
  go_loopw [6, 7, 19] (fun v6 v7 iv wr => ((iv = .int .i64 0 ∧ wr.ownsMap (H := Unit) Try.prog 51 (plainElem Try.prog 4) (w.heap.size + 2) 0 (.map [])) ∨ (iv = .int .i64 1 ∧ wr.ownsMap (H := Unit) Try.prog 51 (plainElem Try.prog 4) (w.heap.size + 2) 1 ((DataW.map []).put (.string k0L) (.lit (.bool true)))) ∨ iv = .int .i64 2) ∧ Hid (Blk wr w.heap.size (dgC lb nb)) ∧ Hid (One wr (w.heap.size + 1) (.int .i64 2)) ∧ Hid (Below w.heap.size w wr) ∧ Hid (Blk wr nb ndC)) (fun _ _ iv _ => 2 - (intOf iv).toNat)
  case atStart => exact ⟨.inl ⟨rfl, M0⟩, Lib.hid X1, Lib.hid X2, Lib.hid XB, Lib.hid XN⟩
  case round =>
    clear X1 X2 XB XN M0
    obtain ⟨hc, X1, X2, XB, XN⟩ := hrel
    rcases hc with ⟨rfl, M⟩ | ⟨rfl, M⟩ | rfl
    · have n0 := XN.out.c 0 rfl
      have n1 := XN.out.c 1 rfl
      have n2 := XN.out.c 2 rfl
      have b3 := al1 wr (.cells #[.int .i64 1, .int .i64 0, .int .i64 1] 51)
      have F := Blk.new_ wr #[.int .i64 1, .int .i64 0, .int .i64 1] 51
      go_upto_region 7 with (fail)
      clear n0 n1 n2
      have M3 := M.alloc (.cells #[.int .i64 1, .int .i64 0, .int .i64 1] 51)
      revert b3 F M3
      generalize wr.alloc (.cells #[.int .i64 1, .int .i64 0, .int .i64 1] 51) = w3
      intro b3 F M3
      have X13 := X1.out.below b3 X1.out.lt
      have X23 := X2.out.below b3 X2.out.lt
      have XN3 := XN.out.below b3 XN.out.lt
      have XB3 := bTrans XB.out b3
      have f0 := F.c 0 rfl
      have f1 := F.c 1 rfl
      have f2 := F.c 2 rfl
      have a0 := X13.c 0 rfl
      have l0 := X23.c
      have hlk := look_run w3 128 51 4 forkKey Try.underlying128 Try.underlying4 (zeroBool _) _ _ _ M3 (.agg #[.int .i64 1, .int .i64 0, .int .i64 1]) _ key0 false at_none
      have hmn := fun ts t W => min2 0 1 0 (by decide) ts t W
      have B1 := Lib.hid (fun at_ (h : at_ < 2) => beforeL lb nb w.heap.size (w.heap.size + 1) 1 at_ w3 X23 h)

      have hkey := key0
      have hil : 0 < maxLen := by unfold maxLen; omega
      clear F
      go_wp2_with fail
      refine (B1.out 0 (by decide)).mono ?_
      rintro r w4 ⟨rfl, rfl⟩
      go_wp2_with fail
      refine (B1.out 1 (by decide)).mono ?_
      rintro r w4 ⟨rfl, rfl⟩
      clear hlk hmn B1
      go_wp2_with (at_mapUpdate; refine wpList_mapUpdate_own _ rfl _ _ _ 128 rfl 51 4 forkKey Try.underlying128 _ (w.heap.size + 2) 0 _ rfl M3 hil _ _ _ rfl rfl hkey _ [] hv ?_; intro w4 hown4 hgrow4)
      have Y1 := Lib.hid (X13.grown hgrow4 (by intro e; injection e with e; omega))
      have Y2 : Hid (One w4 (w.heap.size + 1) (.int .i64 2)) := Lib.hid (by
        obtain ⟨T, hT⟩ := X23.blk
        exact ⟨T, by rw [hgrow4.block _ X23.lt (by intro e; injection e with e; omega)]; exact hT⟩)
      have Y3 := Lib.hid (XB3.grown hgrow4 XB3.size (fun k e => by cases e; omega))
      have Y4 := Lib.hid (XN3.grown hgrow4 (by intro e; injection e with e; omega))
      clear a0 l0 f0 f1 f2 X13 X23 XN3 XB3 X1 X2 XB XN hkey hil
      go_roundw
      case rel => exact ⟨.inr (.inl ⟨rfl, hown4⟩), Y1, Y2, Y3, Y4⟩
      case measure => simp [intOf]
    · have n0 := XN.out.c 3 rfl
      have n1 := XN.out.c 4 rfl
      have n2 := XN.out.c 5 rfl
      have b3 := al1 wr (.cells #[.int .i64 0, .int .i64 0, .int .i64 2] 51)
      have F := Blk.new_ wr #[.int .i64 0, .int .i64 0, .int .i64 2] 51
      go_upto_region 7 with (fail)
      clear n0 n1 n2
      have M3 := M.alloc (.cells #[.int .i64 0, .int .i64 0, .int .i64 2] 51)
      revert b3 F M3
      generalize wr.alloc (.cells #[.int .i64 0, .int .i64 0, .int .i64 2] 51) = w3
      intro b3 F M3
      have X13 := X1.out.below b3 X1.out.lt
      have X23 := X2.out.below b3 X2.out.lt
      have XN3 := XN.out.below b3 XN.out.lt
      have XB3 := bTrans XB.out b3
      have f0 := F.c 0 rfl
      have f1 := F.c 1 rfl
      have f2 := F.c 2 rfl
      have a0 := X13.c 0 rfl
      have l0 := X23.c
      have hlk := look_run w3 128 51 4 forkKey Try.underlying128 Try.underlying4 (zeroBool _) _ _ _ M3 (.agg #[.int .i64 0, .int .i64 0, .int .i64 2]) _ key1 false at_one
      have hmn := fun ts t W => min2 0 2 0 (by decide) ts t W
      have B1 := Lib.hid (fun at_ (h : at_ < 2) => beforeL lb nb w.heap.size (w.heap.size + 1) 0 at_ w3 X23 h)
      have B2 := Lib.hid (beforeN lb nb w.heap.size (w.heap.size + 1) w3 X23 X13 XN3)
      have hkey := key1
      have hil : 1 < maxLen := by unfold maxLen; omega
      clear F
      go_wp2_with fail
      refine (B1.out 0 (by decide)).mono ?_
      rintro r w4 ⟨rfl, rfl⟩
      go_wp2_with fail
      refine (B2.out).mono ?_
      rintro r w4 ⟨rfl, rfl⟩
      clear hlk hmn B1 B2
      go_wp2_with (at_mapUpdate; refine wpList_mapUpdate_own _ rfl _ _ _ 128 rfl 51 4 forkKey Try.underlying128 _ (w.heap.size + 2) 1 _ rfl M3 hil _ _ _ rfl rfl hkey _ [] hv ?_; intro w4 hown4 hgrow4)
      have Y1 := Lib.hid (X13.grown hgrow4 (by intro e; injection e with e; omega))
      have Y2 : Hid (One w4 (w.heap.size + 1) (.int .i64 2)) := Lib.hid (by
        obtain ⟨T, hT⟩ := X23.blk
        exact ⟨T, by rw [hgrow4.block _ X23.lt (by intro e; injection e with e; omega)]; exact hT⟩)
      have Y3 := Lib.hid (XB3.grown hgrow4 XB3.size (fun k e => by cases e; omega))
      have Y4 := Lib.hid (XN3.grown hgrow4 (by intro e; injection e with e; omega))
      clear a0 l0 f0 f1 f2 X13 X23 XN3 XB3 X1 X2 XB XN hkey hil
      go_roundw
      case rel => exact ⟨.inr (.inr rfl), Y1, Y2, Y3, Y4⟩
      case measure => simp [intOf]
    · have bw := XB.out
      go_wp2_with fail
      go_ret
      exact ⟨rfl, bw⟩
end Go.Proofs.Ytdbboeknknlolaa
