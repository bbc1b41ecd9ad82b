/- Walk: Print of package cost. -/
import Derived.Test.YtmemkcaikajnnaaGreatDoorT4
import Derived.Test.YtmemkcaikajnnaaGreatDoorOwn
import Derived.Deep.AppendLies
import Derived.Deep.RegionHeld3
import Derived.Shelf.Strings.OnBuilder
import Derived.Lib.AppendIntMem
namespace Go.Proofs.YtmemkcaikajnnaaGreatDoor
open Go.RowKit Go.Sort
set_option linter.unusedVariables false

theorem joinX : Builder.Extra Tryz.prog Tryz.lays156_ren := {
  sizeBuilder := by kernel_rfl
  liesBuilder := by kernel_rfl
  t5 := Tryz.underlying5
  a5 := Tryz.isAgg5
  z5 := Tryz.sizeOf5
  v5 := Tryz.zeroValue5
  infoByte := by kernel_rfl
  cellsByte := by kernel_rfl
  sizeByte := by kernel_rfl
  neB5 := by decide }
theorem strings_join (bk c : Nat) (xs : List ByteArray) (sep : ByteArray) (w : World)
    (hcells : ∀ (j : Nat) x, xs[j]? = some x → w.cell? ⟨bk, 0 + j, none⟩ = some (.string x))
    (hbk : bk < w.heap.size) (hN : xs.length ≤ 140737488355328) (hcap : xs.length ≤ c)
    (hlen : (Lib.join (xs.map (·.data.toList)) sep.data.toList).length ≤ 140737488355328) :
    Calls Tryz.prog 22 #[.slice (some ⟨bk, 0, none⟩) xs.length c, .string sep] w fun e w' => e = .returned (.string ⟨(Lib.join (xs.map (·.data.toList)) sep.data.toList).toArray⟩) ∧ Below w.heap.size w w' :=
  Any.strings_Join Tryz.lays156 joinX bk 0 c xs sep w hcells hbk hN hcap hlen
theorem infoStr : (Tryz.prog.info? 9).map (fun i => (i.zero, i.size, i.bytes)) = some (some (.string ⟨#[]⟩), 1, 16) := by kernel_rfl
namespace Kp
theorem itoa_len4 (n : Int) (h0 : 0 ≤ n) (h1 : n ≤ 100) : (Lib.itoa n).length ≤ 4 := by
  have hall : ∀ k : Fin 101, (Lib.itoa ((k.val : Nat) : Int)).length ≤ 4 := by decide +kernel
  have h := hall ⟨n.toNat, by omega⟩
  rwa [show (((⟨n.toNat, by omega⟩ : Fin 101).val : Nat) : Int) = n by show ((n.toNat : Nat) : Int) = n; omega] at h
/-- the text of an entry -/
def piece (c : C) (i : Nat) : ByteArray := mkB (names.getD i [] ++ [32] ++ Lib.itoa (c.list.getD i 0))
def pieces (c : C) : List ByteArray := (List.range 13).map (piece c)
theorem pieces_len (c : C) : (pieces c).length = 13 := by unfold pieces; rw [List.length_map, List.length_range]
theorem pieces_next (c : C) {i : Nat} (h : i < 13) : (pieces c).take (i + 1) = (pieces c).take i ++ [piece c i] := by
  have h1 : i < (pieces c).length := by rw [pieces_len]; exact h
  rw [List.take_succ_eq_append_getElem h1]
  have e : (pieces c)[i] = piece c i := by
    have : (pieces c)[i]? = some (piece c i) := by unfold pieces; rw [List.getElem?_map, List.getElem?_range h]; rfl
    rw [List.getElem?_eq_getElem h1] at this
    injection this
  rw [e]
/-- the text of a model -/
def text (c : C) : List UInt8 := Lib.join ((pieces c).map (·.data.toList)) [44, 32]
theorem jtail_len (L : List (List UInt8)) (h : ∀ x ∈ L, x.length ≤ 50) : (Lib.joinTail [44, 32] L).length ≤ 52 * L.length := by
  unfold Lib.joinTail
  induction L with
  | nil => simp
  | cons x L ih =>
    have h1 := h x List.mem_cons_self
    have h2 := ih fun y hy => h y (List.mem_cons_of_mem _ hy)
    simp only [List.map_cons, List.flatten_cons, List.length_append, List.length_cons, List.length_nil] at h2 ⊢
    omega
theorem text_len (c : C) (hc : c.ok = true) : (text c).length ≤ 1000 := by
  have hp : ∀ x ∈ (pieces c).map (·.data.toList), x.length ≤ 50 := by
    intro x hx
    obtain ⟨y, hy, rfl⟩ := List.mem_map.1 hx
    unfold pieces at hy
    obtain ⟨i, hi, rfl⟩ := List.mem_map.1 hy
    have hi := List.mem_range.1 hi
    have hb := C.ok_get hc (x := c.list.getD i 0) (by rw [List.getD_eq_getElem?_getD, List.getElem?_eq_getElem (by rw [C.len]; exact hi)]; exact List.getElem_mem _)
    have h4 := itoa_len4 _ hb.1 (by omega)
    have hn : ∀ k : Fin 13, (names.getD k.val []).length ≤ 10 := by decide
    have hn := hn ⟨i, hi⟩
    show (piece c i).data.toList.length ≤ 50
    unfold piece
    show (names.getD i [] ++ [32] ++ Lib.itoa (c.list.getD i 0)).length ≤ 50
    rw [List.length_append, List.length_append]
    simp only [List.length_cons, List.length_nil]
    have hn' : (names.getD i []).length ≤ 10 := hn
    omega
  have hl : ((pieces c).map (·.data.toList)).length = 13 := by rw [List.length_map, pieces_len]
  unfold text
  revert hp hl
  generalize (pieces c).map (·.data.toList) = L
  intro hp hl
  cases L with
  | nil => exact absurd hl (by simp)
  | cons x L =>
    rw [Lib.join_cons, List.length_append]
    have h1 := hp x List.mem_cons_self
    have h2 := jtail_len L fun y hy => hp y (List.mem_cons_of_mem _ hy)
    rw [List.length_cons] at hl
    omega
end Kp
theorem itoa_any (n : Int) (h0 : 0 ≤ n) (h1 : n ≤ 4096) (w : World) (ht : Lib.TabIs Tryz.prog w "internal/strconv.uint64pow10" .u64 Lib.pow10Tab) :
    Calls Tryz.prog 21 #[.int .i64 n] w fun e w' => e = .returned (.string (mkB (Lib.itoa n))) ∧ Below w.heap.size w w' :=
  (Tryz.strconv_Itoa n (by omega) (by omega) w ht).mono fun e w' ⟨he, k, os, hw⟩ => ⟨he, by rw [hw]; exact Lib.below_grow _ w (Nat.le_refl _) k os⟩
/-- the row of texts so far -/
structure PrI (w wr : World) (c : C) (v : Value) (ss : List ByteArray) : Prop where
  own : wr.ownsRow (w.heap.size + 1) 9 1 v ss.length (ss.map Value.string)
  bc : Blk wr w.heap.size c.box
  bel : Below w.heap.size w wr
theorem PrI.grown {w wr w3 : World} {c : C} {v v' : Value} {ss : List ByteArray} {x : ByteArray} {o : Obj} (h : PrI w wr c v ss)
    (ho : w3.ownsRow (w.heap.size + 1) 9 1 v' (ss.length + 1) (ss.map Value.string ++ [.string x])) (hg : (wr.alloc o).grownBy w3 v.ownBlock) : PrI w w3 c v' (ss ++ [x]) where
  own := by rw [List.map_append, List.length_append]; exact ho
  bc := (h.bc.alloc o).grown hg (fun e => by have := (h.own.lt _ e.symm).1; omega)
  bel := (h.bel.alloc h.bel.size o).grown hg (by have := h.bel.size; simp; omega) (fun k e => by have := (h.own.lt k e).1; omega)
theorem PrI.below {w wr w' : World} {c : C} {v : Value} {ss : List ByteArray} (h : PrI w wr c v ss) (hb : Below wr.heap.size wr w') : PrI w w' c v ss :=
  ⟨h.own.kept (row := none) ⟨hb.os, hb.tape, hb.output, hb.size, fun k hk _ => hb.block k hk⟩ (by cases hv : v.ownBlock <;> simp), h.bc.below hb h.bc.lt, h.bel.trans (hb.mono h.bel.size)⟩
theorem PrI.keep {w wr w3 : World} {c : C} {v : Value} {ss : List ByteArray} {o : Obj} (Y : PrI w wr c v ss) (hg : (wr.alloc o).grownBy w3 v.ownBlock) {b k : Nat} {x : Value} (hb : b ≤ w.heap.size) (h : (wr.alloc o).cell? ⟨b, k, none⟩ = some x) : w3.cell? ⟨b, k, none⟩ = some x :=
  (hg.cell_far ⟨b, k, none⟩ (by have := Y.bc.lt; rw [World.size_alloc]; show b < _; omega) (fun e => by have h2 : w.heap.size + 1 ≤ b := (Y.own.lt b e.symm).1; omega)).trans h
theorem PrI.lim {w wr : World} {c : C} {A : Option Addr} {cp : Nat} {ss : List ByteArray} (h : PrI w wr c (.slice A ss.length cp) ss) (hn : 0 < ss.length) : ∃ g, A = some ⟨g, 0, none⟩ ∧ g < wr.heap.size ∧ ss.length ≤ cp ∧ ∀ (j : Nat) x, ss[j]? = some x → wr.cell? ⟨g, 0 + j, none⟩ = some (.string x) := by
  have ho := h.own
  rcases ho.2 with ⟨_, h0⟩ | ⟨g, cap, cur, hv, _, hg, hcap, _⟩
  · omega
  · injection hv with h1 h2 h3
    subst h1 h3
    refine ⟨g, rfl, (Array.getElem?_eq_some_iff.1 hg).1, hcap, fun j x hx => ?_⟩
    have := ho.cells (g := g) rfl j (.string x) (by rw [List.getElem?_map, hx]; rfl)
    have e : (⟨g, 0, none⟩ : Addr).add j = ⟨g, 0 + j, none⟩ := by unfold Addr.add; split <;> simp_all
    rwa [e] at this
set_option maxRecDepth 100000 in
set_option maxHeartbeats 3000000 in
theorem print_bad (c : C) (w : World) (hk : c.code = 3) :
    Calls Tryz.prog 6 #[c.val] w fun r w' => r = .returned (.tuple #[.string ⟨#[]⟩, .int .i64 3]) ∧ Below w.heap.size w w' := by
  have HK := Lib.hid (fun W => (by have h := check_any c W; rw [hk] at h; exact h : Calls Tryz.prog 19 #[c.val] W fun r w' => r = .returned (.int .i64 3) ∧ Below W.heap.size W w'))
  clear hk
  go_enter Tryz.func6, Tryz.ntmps6
  go_wp2_with fail
  refine (HK.out _).mono ?_
  rintro r w1 ⟨rfl, b1⟩
  have b2 := bTrans (al1 w _) b1
  clear b1 HK
  go_wp2_with fail
  go_ret2
  exact ⟨rfl, b2⟩
set_option maxRecDepth 100000 in
set_option maxHeartbeats 3000000 in
theorem print_ok (c : C) (w : World) (hT : Tk w.heap.size w) (hk : c.ok = true) :
    Calls Tryz.prog 6 #[c.val] w fun r w' => r = .returned (.tuple #[.string (mkB (Kp.text c)), .int .i64 0]) ∧ Below w.heap.size w w' := by
  obtain ⟨i0, hi0, hz0, hz1, hz2⟩ := info_parts infoStr
  have hcode : c.code = 0 := by unfold C.code; rw [if_pos hk]
  have HK := Lib.hid hk
  have HC := Lib.hid (fun W => (by have h := check_any c W; rw [hcode] at h; exact h : Calls Tryz.prog 19 #[c.val] W fun r w' => r = .returned (.int .i64 0) ∧ Below W.heap.size W w'))
  clear hcode hk
  go_enter Tryz.func6, Tryz.ntmps6
  go_wp2_with fail
  refine (HC.out _).mono ?_
  rintro r w1 ⟨rfl, b1⟩
  have hbc : Blk w1 w.heap.size c.box := (Blk.new_ w _ _).below b1 (by simp)
  have b2 := bTrans (al1 w _) b1
  clear b1 HC
  go_wp2_with fail
  refine (entries_any w.heap.size _).mono ?_
  rintro r w2 ⟨rfl, b3⟩
  have X : PrI w w2 c (.slice none 0 0) [] := ⟨World.ownsRow_nil _ _ _ _, hbc.below b3 hbc.lt, bTrans b2 b3⟩
  clear b2 b3 hbc
  go_wp2_with fail
  go_loopw [5, 14] (fun sv iv wr => ∃ i : Nat, i ≤ 13 ∧ iv = .int .i64 i ∧ ∃ ss : List ByteArray, Hid (ss = (Kp.pieces c).take i) ∧ Hid (ss.length = i) ∧ PrI w wr c sv ss) (fun _ iv _ => 13 - (intOf iv).toNat)
  case atStart => exact ⟨0, Nat.zero_le _, rfl, [], Lib.hid rfl, Lib.hid rfl, X⟩
  case round =>
    clear X
    obtain ⟨i, hi, rfl, ss, hss, hsl, Y⟩ := hrel
    by_cases hlt : i < 13
    · have hltI : (i : Int) < 13 := by omega
      have hidx := ents_at w.heap.size hlt
      have hc := Y.bc.c i (C.box_at c hlt)
      have T := hT.at Y.bel
      have hcn := T.nm i hlt
      have hlb := Y.bc.lt
      obtain ⟨x, hx⟩ : ∃ x, Hid (c.list.getD i 0 = x) := ⟨_, Lib.hid rfl⟩
      obtain ⟨s1, hs1⟩ : ∃ s, Hid (nmK i = s) := ⟨_, Lib.hid rfl⟩
      have hxb : 0 ≤ x ∧ x ≤ 100 := by rw [← hx.out]; exact C.ok_get HK.out (by rw [List.getD_eq_getElem?_getD, List.getElem?_eq_getElem (by rw [C.len]; exact hlt)]; exact List.getElem_mem _)
      obtain ⟨s2, hs2⟩ : ∃ s, Hid (mkB (Lib.itoa x) = s) := ⟨_, Lib.hid rfl⟩
      have z1 : s1.size ≤ 10 := by
        rw [← hs1.out]
        have hn : ∀ k : Fin 13, (nmK k.val).size ≤ 10 := by decide
        exact hn ⟨i, hlt⟩
      have z2 : s2.size ≤ 4 := by
        rw [← hs2.out, mk_size]
        exact Kp.itoa_len4 x hxb.1 (by omega)
      have k1 : (9223372036854775807 < s1.size + 1) = False := eq_false (by omega)
      have k2 : (9223372036854775807 < s1.size + 1 + s2.size) = False := eq_false (by omega)
      have HI := Lib.hid (fun (W : World) (ht : Lib.TabIs Tryz.prog W "internal/strconv.uint64pow10" .u64 Lib.pow10Tab) => (by have h := itoa_any x hxb.1 (by omega) W ht; rw [hs2.out] at h; exact h : Calls Tryz.prog 21 #[.int .i64 x] W fun e w' => e = .returned (.string s2) ∧ Below W.heap.size W w'))
      have HP : Hid (Kp.piece c i = mkB (s1.data.toList ++ [32] ++ s2.data.toList)) := Lib.hid (by rw [← hs1.out, ← hs2.out]; unfold Kp.piece; rw [hx.out]; rfl)
      rw [hx.out] at hc
      rw [hs1.out] at hcn
      clear hxb z1 z2 hx hs1 hs2
      have hzb : ss.length ≤ 13 := by rw [hsl.out]; omega
      obtain ⟨A', c', rfl⟩ := own_slice Y.own
      have hln : ∀ w3 : World, Below wr.heap.size wr w3 → ∀ o, (w3.alloc o).cell? ⟨0, i, none⟩ = some (.string s1) ∧ (w3.alloc o).cell? ⟨w.heap.size, i, none⟩ = some (.int .i64 x) := fun w3 b3 o =>
        ⟨(World.cell?_alloc_lt w3 o _ (Nat.lt_of_lt_of_le T.ln b3.size)).trans ((b3.cell (p := ⟨0, i, none⟩) T.ln).trans hcn), (World.cell?_alloc_lt w3 o _ (Nat.lt_of_lt_of_le hlb b3.size)).trans ((b3.cell (p := ⟨w.heap.size, i, none⟩) hlb).trans hc)⟩
      have HLN := Lib.hid hln
      clear hln
      go_wp2_with fail
      have b0 : Below wr.heap.size wr wr.drew := (Below.refl _ _).drew
      go_region_held3 (fun w' => w'.cell? ⟨0, i, none⟩ = some (.string s1) ∧ w'.cell? ⟨w.heap.size, i, none⟩ = some (.int .i64 x)) (first | exact ⟨hcn, hc⟩ | exact kk _ | exact kg)
        (first
          | (go_at_call 21; refine (HI.out _ (T.at b0).pw).mono ?_; rintro r w3 ⟨rfl, b3⟩; have b4 := bTrans b0 b3; replace Y := Y.below b4; replace hcn := (b4.cell (p := ⟨0, i, none⟩) T.ln).trans hcn; replace hc := (b4.cell (p := ⟨w.heap.size, i, none⟩) hlb).trans hc; have kk := HLN.out _ b4; have hlb8 := Y.bc.lt)
          | (refine step_append_lies _ (by rfl) _ _ 35 (by rfl) (w.heap.size + 1) 9 i0 (.string ⟨#[]⟩) 1 16 Tryz.underlying35 hi0 hz0 hz1 hz2 (by decide) (by decide) _ _ _ (by rfl) (Y.own.alloc _) ⟨w3.heap.size, 0, none⟩ 1 1 [.string (mkB (s1.data.toList ++ [32] ++ s2.data.toList))] (by rfl) (by rfl) (fun j u hu => (by have hz := cell_one_new w3 (.string (mkB (s1.data.toList ++ [32] ++ s2.data.toList))) 9 j u hu; exact hz)) (fun u hu => by simp at hu; subst hu; rfl) (by decide) (by unfold maxLen; omega) (by omega) (by rw [World.size_alloc]; omega) _ rfl ?_; intro g cap w8 hown8 hgrow hat hlt8; have kg := And.intro (Y.keep hgrow (Nat.le_of_lt hT.ln) (kk _).1) (Y.keep hgrow (Nat.le_refl _) (kk _).2)))
      have Y8 := Y.grown hown8 hgrow
      have HS8 : Hid (ss ++ [mkB (s1.data.toList ++ [32] ++ s2.data.toList)] = (Kp.pieces c).take (i + 1)) := Lib.hid (by rw [Kp.pieces_next c hlt, HP.out, hss.out])
      have HL8 : Hid ((ss ++ [mkB (s1.data.toList ++ [32] ++ s2.data.toList)]).length = i + 1) := Lib.hid (by rw [List.length_append, hsl.out]; rfl)
      clear hown8 hgrow hat kg kk hlt8 Y k1 k2 T HLN HI HP
      go_wp2_with fail
      go_roundw
      case rel => exact ⟨i + 1, by omega, by go_num, _, HS8, HL8, Y8⟩
      case measure => simp [intOf]; omega
    · obtain rfl : i = 13 := by omega
      have hss2 : ss = Kp.pieces c := by rw [hss.out, List.take_of_length_le]; rw [Kp.pieces_len]; exact Nat.le_refl _
      obtain ⟨A', c', rfl⟩ := own_slice Y.own
      obtain ⟨g, rfl, hg, hcap, hcells⟩ := Y.lim (by rw [hsl.out]; decide)
      have HJ := Lib.hid (strings_join g c' ss ⟨#[44, 32]⟩ wr hcells hg (by rw [hsl.out]; decide) hcap (by rw [hss2]; exact Nat.le_trans (Kp.text_len c HK.out) (by decide)))
      have HX : Hid ((⟨(Lib.join (ss.map (·.data.toList)) [44, 32]).toArray⟩ : ByteArray) = mkB (Kp.text c)) := Lib.hid (by rw [hss2]; rfl)
      have b2 := Y.bel
      clear Y hss hss2 hcells hcap HK
      go_wp2_with fail
      refine (HJ.out).mono ?_
      rintro r w9 ⟨rfl, b9⟩
      have b10 := bTrans b2 b9
      have HX2 := HX.out
      clear HJ HX b9 b2
      rw [show (⟨(Lib.join (ss.map (·.data.toList)) (⟨#[44, 32]⟩ : ByteArray).data.toList).toArray⟩ : ByteArray) = mkB (Kp.text c) from HX2]
      clear HX2
      go_wp2_with fail
      go_ret2
      exact ⟨rfl, b10⟩
end Go.Proofs.YtmemkcaikajnnaaGreatDoor
