/- Walks: Join of package lexer. -/
import Derived.Test.YtcckocaaoklibaaDoorLex6
import Derived.Test.YtcckocaaoklibaaDoorLawTokens
import Derived.Shelf.Strings.OnBuilder
import Derived.Maps.OwnSet
import Derived.Maps.OwnOps
import Derived.Laws.OwnMore
namespace Go.Proofs.YtcckocaaoklibaaDoor
open Go.RowKit
set_option linter.unusedVariables false

theorem joinX : Builder.Extra Tryd.prog Tryd.lays156_ren := {
  sizeBuilder := by kernel_rfl
  liesBuilder := by kernel_rfl
  t5 := Tryd.underlying5
  a5 := Tryd.isAgg5
  z5 := Tryd.sizeOf5
  v5 := Tryd.zeroValue5
  infoByte := by kernel_rfl
  cellsByte := by kernel_rfl
  sizeByte := by kernel_rfl
  neB5 := by decide }
theorem strings_join (bk c : Nat) (xs : List ByteArray) (sep : ByteArray) (w : World)
    (hcells : ∀ (j : Nat) x, xs[j]? = some x → w.cell? ⟨bk, 0 + j, none⟩ = some (.string x))
    (hbk : bk < w.heap.size) (hN : xs.length ≤ 140737488355328) (hcap : xs.length ≤ c)
    (hlen : (Lib.join (xs.map (·.data.toList)) sep.data.toList).length ≤ 140737488355328) :
    Calls Tryd.prog 53 #[.slice (some ⟨bk, 0, none⟩) xs.length c, .string sep] w fun e w' => e = .returned (.string ⟨(Lib.join (xs.map (·.data.toList)) sep.data.toList).toArray⟩) ∧ Below w.heap.size w w' :=
  Any.strings_Join Tryd.lays156 joinX bk 0 c xs sep w hcells hbk hN hcap hlen

/-- texts as cells -/
def scells (l : List ByteArray) : Array Value := (l.map Value.string).toArray
theorem scells_made (n : Nat) : madeCells #[.string ⟨#[]⟩] n = scells (List.replicate n ⟨#[]⟩) := by
  apply Array.ext
  · simp [madeCells, scells]
  · intro i h1 h2
    simp [madeCells, scells, Nat.mod_one]
def SBlk (w : World) (g : Nat) (l : List ByteArray) : Prop := w.heap[g]? = some (.cells (scells l) 9 (0, 0))
theorem SBlk.lt {w : World} {g : Nat} {l : List ByteArray} (h : SBlk w g l) : g < w.heap.size := (Array.getElem?_eq_some_iff.1 h).1
theorem SBlk.cell {w : World} {g : Nat} {l : List ByteArray} (h : SBlk w g l) {k : Nat} {x : ByteArray} (hk : l[k]? = some x) : w.cell? ⟨g, k, none⟩ = some (.string x) := by
  rw [cell_of_row w g k _ _ _ h]
  simp [scells, hk]
theorem SBlk.frozen {w : World} {g : Nat} {l : List ByteArray} (h : SBlk w g l) (k : Nat) : w.frozen? ⟨g, k, none⟩ = false := frozen_of_row w g k _ _ h
theorem SBlk.alloc {w : World} {g : Nat} {l : List ByteArray} (h : SBlk w g l) (o : Obj) : SBlk (w.alloc o) g l := (Below.heap_alloc w o g h.lt).trans h
theorem SBlk.set_ {w : World} {g : Nat} {l : List ByteArray} (h : SBlk w g l) (k : Nat) (x : ByteArray) : SBlk (w.setCell ⟨g, k, none⟩ (.string x)) g (l.set k x) := by
  have h' : w.heap[g]? = some (.cells (scells l) 9 (0, 0)) := h
  show ((w.setCell ⟨g, k, none⟩ (.string x)).heap)[g]? = some (.cells (scells (l.set k x)) 9 (0, 0))
  have e : scells (l.set k x) = (scells l).setIfInBounds k (.string x) := by
    unfold scells
    rw [List.map_set]
    simp
  rw [e]
  simp [World.setCell, Array.getElem?_modify, h']
theorem makeStrs (n : Nat) (hn : n ≤ 100000) (W : World) : (Instr.makeSlice 74 (.int .i64 (n : Int)) (.int .i64 (n : Int))).run Tryd.prog W = .ok (.slice (some ⟨W.heap.size, 0, none⟩) n n) (W.alloc (.cells (scells (List.replicate n ⟨#[]⟩)) 9)) := by
  have h := run_make_row' (P := Tryd.prog) 74 9 (.string ⟨#[]⟩) 16 Tryd.underlying74 (by kernel_rfl) rfl .i64 .i64 n (by omega) (by omega) W
  rw [scells_made] at h
  exact h
/-- k texts are laid -/
def fillS (ts : List Kx.Tk) (k : Nat) : List ByteArray := ((ts.map fun t => mkB t.text).take k) ++ List.replicate (ts.length - k) ⟨#[]⟩
theorem fillS_zero (ts : List Kx.Tk) : fillS ts 0 = List.replicate ts.length ⟨#[]⟩ := by simp [fillS]
theorem fillS_all (ts : List Kx.Tk) : fillS ts ts.length = ts.map fun t => mkB t.text := by
  unfold fillS
  rw [List.take_of_length_le (by rw [List.length_map]; exact Nat.le_refl _), Nat.sub_self]
  simp
theorem fillS_at (ts : List Kx.Tk) {k : Nat} (h : k < ts.length) : (fillS ts k)[k]? = some ⟨#[]⟩ := by
  unfold fillS
  rw [List.getElem?_append_right (by rw [List.length_take, List.length_map]; omega), List.length_take, List.length_map, Nat.min_eq_left (by omega), Nat.sub_self, List.getElem?_replicate, if_pos (by omega)]
theorem fillS_set (ts : List Kx.Tk) {k : Nat} (h : k < ts.length) : (fillS ts k).set k (mkB ts[k].text) = fillS ts (k + 1) := by
  unfold fillS
  have hl : ((ts.map fun t => mkB t.text).take k).length = k := by rw [List.length_take, List.length_map]; omega
  rw [List.set_append_right _ _ (by omega), hl, Nat.sub_self, List.take_add_one, List.append_assoc]
  congr 1
  rw [show ts.length - k = ts.length - (k + 1) + 1 by omega, List.replicate_succ, List.set_cons_zero, List.getElem?_map, List.getElem?_eq_getElem h]
  rfl
theorem join_jn (ts : List Kx.Tk) : Lib.join ((ts.map fun t => mkB t.text).map (·.data.toList)) [32] = Kx.jn ts := by
  cases ts with
  | nil => rfl
  | cons t ts =>
    rw [List.map_cons, List.map_cons, Lib.join_cons]
    show t.text ++ _ = t.text ++ Kx.jtl ts
    rw [Kx.jtl_flat]
    unfold Lib.joinTail
    rw [List.map_map, List.map_map]
    rfl
set_option maxRecDepth 100000 in
set_option maxHeartbeats 1000000 in
theorem join_any (A : Option Addr) (c : Nat) (ts : List Kx.Tk) (w : World) (hA : Toks w w.heap.size A ts) (hl : ts.length ≤ 9000) (hlen : (Kx.jn ts).length ≤ 100000) :
    Calls Tryd.prog 23 #[.slice A ts.length c] w fun e w' => e = .returned (.string (mkB (Kx.jn ts))) ∧ Below w.heap.size w w' := by
  have hmk := fun W => makeStrs ts.length (by omega) W
  go_enter Tryd.func23, Tryd.ntmps23
  go_wp2_with fail
  have I0 : SBlk (w.alloc (.cells (scells (List.replicate ts.length ⟨#[]⟩)) 9)) w.heap.size (fillS ts 0) := by rw [fillS_zero]; exact heap_alloc_new w _
  have B0 := al1 w (.cells (scells (List.replicate ts.length ⟨#[]⟩)) 9)
  clear hmk
  revert I0 B0
  generalize w.alloc (.cells (scells (List.replicate ts.length ⟨#[]⟩)) 9) = w0
  intro I0 B0
  go_loopw [11] (fun kv wr => ∃ k : Nat, k ≤ ts.length ∧ kv = .int .i64 (k : Int) ∧ Below w.heap.size w wr ∧ SBlk wr w.heap.size (fillS ts k)) (fun kv _ => ts.length - (intOf kv).toNat)
  case atStart => exact ⟨0, Nat.zero_le _, rfl, B0, I0⟩
  case round =>
    clear I0 B0
    obtain ⟨k, hk, rfl, bw, I⟩ := hrel
    by_cases hlt : k < ts.length
    · have hltI : (k : Int) < (ts.length : Int) := by omega
      obtain ⟨b, off, rfl, hb, c0, c1, c2⟩ := (hA.at bw).at_ hlt
      have hset0 := fillS_set ts hlt
      have hat := fillS_at ts hlt
      revert c0 c1 c2 hset0
      generalize ts[k].kind = x
      generalize mkB ts[k].text = y
      generalize (ts[k].pos : Int) = z
      intro c0 c1 c2 hset0
      go_upto_region 5 with (fail)
      have bw2 := bTrans bw (al1 wr (.cells #[.int .i64 x, .string y, .int .i64 z] 40))
      have I2 := I.alloc (.cells #[.int .i64 x, .string y, .int .i64 z] 40)
      have d1 : (wr.alloc (.cells #[.int .i64 x, .string y, .int .i64 z] 40)).cell? ⟨wr.heap.size, 1, none⟩ = some (.string y) := by rw [cell_of_row _ _ _ _ _ _ (heap_alloc_new wr _)]; rfl
      clear c0 c1 c2 hb I bw
      revert bw2 I2 d1
      generalize wr.alloc (.cells #[.int .i64 x, .string y, .int .i64 z] 40) = W
      generalize wr.heap.size = bx
      intro bw2 I2 d1
      have hcg := I2.cell hat
      have hfg := I2.frozen k
      have hset := I2.set_ k y
      rw [hset0] at hset
      have hbel := bw2.setCell (p := ⟨w.heap.size, k, none⟩) (Nat.le_refl _) (.string y)
      have HSET := Lib.hid hset
      clear hset hset0 hat I2
      go_wp2_with fail
      go_roundw
      case rel => exact ⟨k + 1, by omega, by go_num, hbel, HSET.out⟩
      case measure => simp [intOf]; omega
    · obtain rfl : k = ts.length := by omega
      rw [fillS_all] at I
      have hj := strings_join w.heap.size ts.length (ts.map fun t => mkB t.text) ⟨#[32]⟩ wr (fun j x hx => by rw [Nat.zero_add]; exact I.cell hx) I.lt (by rw [List.length_map]; omega) (by rw [List.length_map]; exact Nat.le_refl _) (by
        rw [show (⟨#[32]⟩ : ByteArray).data.toList = [32] from rfl, join_jn]; omega)
      rw [show (⟨#[32]⟩ : ByteArray).data.toList = [32] from rfl, join_jn, List.length_map] at hj
      clear I
      go_wp2_with fail
      refine hj.mono ?_
      rintro e w2 ⟨rfl, b2⟩
      go_wp2_with fail
      go_ret
      exact ⟨rfl, bTrans bw b2⟩
end Go.Proofs.YtcckocaaoklibaaDoor
