/- Rows that a call has made itself; slices.Equal at a list and itself; List of package cost. -/
import Derived.Test.YtacihccncfcokaaDoorRg
import Derived.OwnWalk
import Derived.Deep.OwnRows
import Derived.Maps.OwnSet
import Derived.Maps.OwnOps
import Derived.Maps.AppendAt
import Derived.Laws.OwnMore
import Derived.Deep.QuietTactic
import Derived.BigQuiet
namespace Go.Proofs.YtacihccncfcokaaDoor
open Go.RowKit Go.Sort
set_option linter.unusedVariables false

theorem Row.of_own {w : World} {base e : Nat} {A : Option Addr} {n c : Nat} {xs : List Value} (h : w.ownsRow base e 1 (.slice A n c) n xs) : Row w w.heap.size A xs := ⟨fun hn => by
  rcases h.2 with ⟨_, h0⟩ | ⟨g, cap, cur, hv, _, hg, _⟩
  · have := h.1; omega
  · injection hv with h1 h2 h3
    subst h1
    exact ⟨g, 0, rfl, (Array.getElem?_eq_some_iff.1 hg).1, fun k u hu => by
      have := h.cells (g := g) rfl k u hu
      have e : (⟨g, 0, none⟩ : Addr).add k = ⟨g, 0 + k, none⟩ := by unfold Addr.add; split <;> simp_all
      rwa [e] at this⟩⟩
theorem own_slice {w : World} {base e n : Nat} {v : Value} {xs : List Value} (h : w.ownsRow base e 1 v n xs) : ∃ A c, v = .slice A n c := by
  rcases h.2 with ⟨rfl, rfl⟩ | ⟨g, cap, cur, rfl, _⟩
  · exact ⟨none, 0, rfl⟩
  · exact ⟨_, cap, rfl⟩
theorem infoInt : (Tryd.prog.info? 3).map (fun i => (i.zero, i.size, i.bytes)) = some (some (.int .i64 0), 1, 8) := by kernel_rfl
/-- numbers as values -/
def zvals (zs : List Int) : List Value := zs.map fun x => Value.int .i64 x
theorem zvals_length (zs : List Int) : (zvals zs).length = zs.length := by simp [zvals]
theorem zvals_snoc (zs : List Int) (x : Int) : zvals (zs ++ [x]) = zvals zs ++ [.int .i64 x] := by simp [zvals]
/-- a row of numbers that the call makes, behind a model's box -/
structure LsI (w wr : World) (c : C) (v : Value) (zs : List Int) : Prop where
  own : wr.ownsRow (w.heap.size + 1) 3 1 v zs.length (zvals zs)
  bc : Blk wr w.heap.size c.box
  bel : Below w.heap.size w wr
theorem LsI.grown {w wr w3 : World} {c : C} {v v' : Value} {zs : List Int} {x : Int} {o : Obj} (h : LsI w wr c v zs)
    (ho : w3.ownsRow (w.heap.size + 1) 3 1 v' (zs.length + 1) (zvals zs ++ [.int .i64 x])) (hg : (wr.alloc o).grownBy w3 v.ownBlock) : LsI w w3 c v' (zs ++ [x]) where
  own := by rw [zvals_snoc, List.length_append]; exact ho
  bc := (h.bc.alloc o).grown hg (fun e => by have := (h.own.lt _ e.symm).1; omega)
  bel := (h.bel.alloc h.bel.size o).grown hg (by have := h.bel.size; simp; omega) (fun k e => by have := (h.own.lt k e).1; omega)
set_option maxRecDepth 100000 in
set_option maxHeartbeats 2000000 in
theorem clist_any (c : C) (w : World) : Calls Tryd.prog 14 #[c.val] w (NewZs c.list w) := by
  obtain ⟨i0, hi0, hz0, hz1, hz2⟩ := info_parts infoInt
  go_enter Tryd.func14, Tryd.ntmps14
  go_wp2_with fail
  refine (entries_any w.heap.size _).mono ?_
  rintro r w1 ⟨rfl, b1⟩
  have X : LsI w w1 c (.slice none 0 0) [] := ⟨World.ownsRow_nil _ _ _ _, (Blk.new_ w _ _).below b1 (by simp), bTrans (al1 w _) b1⟩
  clear b1
  go_wp2_with fail
  go_loopw [3, 7] (fun sv iv wr => ∃ i : Nat, i ≤ 13 ∧ iv = .int .i64 i ∧ ∃ zs : List Int, Hid (zs = c.list.take i) ∧ Hid (zs.length = i) ∧ LsI w wr c sv zs) (fun _ iv _ => 13 - (intOf iv).toNat)
  case atStart => exact ⟨0, Nat.zero_le _, rfl, [], Lib.hid rfl, Lib.hid rfl, X⟩
  case round =>
    clear X
    obtain ⟨i, hi, rfl, zs, hzs, hzl, Y⟩ := hrel
    by_cases hlt : i < 13
    · have hltI : (i : Int) < 13 := by omega
      have hidx := ents_at w.heap.size hlt
      have hc := Y.bc.c i (C.box_at c hlt)
      obtain ⟨x, hx⟩ : ∃ x, Hid (c.list.getD i 0 = x) := ⟨_, Lib.hid rfl⟩
      rw [hx.out] at hc
      have HT : Hid (zs ++ [x] = c.list.take (i + 1)) := Lib.hid (by
        have h1 : i < c.list.length := by rw [C.len]; exact hlt
        rw [List.take_succ_eq_append_getElem h1, hzs.out, ← hx.out, List.getD_eq_getElem?_getD, List.getElem?_eq_getElem h1]; rfl)
      have HL : Hid ((zs ++ [x]).length = i + 1) := Lib.hid (by rw [List.length_append, hzl.out]; rfl)
      have hzb : zs.length ≤ 13 := by rw [hzl.out]; omega
      obtain ⟨A', c', rfl⟩ := own_slice Y.own
      have ho := Y.own
      go_wp2_with (at_builtin; refine wpList_append_own _ rfl _ _ 29 rfl (w.heap.size + 1) 3 i0 (.int .i64 0) 1 8 Tryd.underlying29 hi0 hz0 hz1 hz2 rfl (by decide) _ _ _ rfl (ho.alloc _) ⟨wr.heap.size, 0, none⟩ 1 1 [.int .i64 x] rfl rfl ?c1 ?c2 ?c3 ?c4 ?c5 ?_)
      case c1 => exact cell_one_new _ _ _
      case c2 => intro u hu; simp at hu; subst hu; rfl
      case c3 => unfold maxLen; omega
      case c4 => omega
      case c5 => have := Y.bc.lt; first | omega | (simp; omega)
      intro v' w3 hown' hgrow _
      have Y3 := Y.grown (x := x) hown' hgrow
      clear hown' hgrow Y ho
      go_wp2_with fail
      go_roundw
      case rel => exact ⟨i + 1, by omega, by go_num, zs ++ [x], HT, HL, Y3⟩
      case measure => simp [intOf]; omega
    · obtain rfl : i = 13 := by omega
      have hzz : zs = c.list := by rw [hzs.out]; rfl
      subst hzz
      obtain ⟨A', c', rfl⟩ := own_slice Y.own
      have ho := Y.own
      have b2 := Y.bel
      have hres : Zs wr wr.heap.size A' c.list := ⟨Row.of_own ho⟩
      clear ho Y hzs hzl
      go_wp2_with fail
      go_ret
      exact ⟨A', c', rfl, hres, b2⟩

set_option maxRecDepth 100000 in
set_option maxHeartbeats 1000000 in
theorem seqz_any (A B : Option Addr) (ca cb : Nat) (zs : List Int) (w : World) (ha : Zs w w.heap.size A zs) (hb : Zs w w.heap.size B zs) (hl : zs.length ≤ 1000000) :
    Calls Tryd.prog 13 #[.slice A zs.length ca, .slice B zs.length cb] w fun r w' => r = .returned (.bool true) ∧ Below w.heap.size w w' := by
  go_enter Tryd.func13, Tryd.ntmps13
  go_wp2_with fail
  go_loopw [13] (fun kv wr => ∃ k q : Nat, k ≤ zs.length ∧ kv = .int .i64 k ∧ wr = w.drewN q) (fun kv _ => zs.length - (intOf kv).toNat)
  case atStart => exact ⟨0, 0, Nat.zero_le _, rfl, rfl⟩
  case round =>
    obtain ⟨k, q, hk, rfl, rfl⟩ := hrel
    by_cases hlt : k < zs.length
    · obtain ⟨b, off, x, rfl, hbb, hc, hx⟩ := ha.at_ hlt
      obtain ⟨b2, off2, y, rfl, hbb2, hc2, hy⟩ := hb.at_ hlt
      obtain rfl : x = y := by
        obtain ⟨_, e1⟩ := hx.out
        obtain ⟨_, e2⟩ := hy.out
        rw [← e1, ← e2]
      have hxx : (x != x) = false := by simp
      go_wp2_with fail
      go_quiet (fail)
      go_wp2_with fail
      go_roundw
      case rel => exact ⟨k + 1, _, by omega, by go_num, rfl⟩
      case measure => simp [intOf]; omega
    · obtain rfl : k = zs.length := by omega
      go_wp2_with fail
      go_ret
      exact ⟨rfl, bDrew (Below.refl _ _) _⟩
end Go.Proofs.YtacihccncfcokaaDoor
