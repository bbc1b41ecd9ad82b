/- Walks: Reserved of package lexer. -/
import Derived.Test.YtlifnabeilnblaaGreatDoorW3
namespace Go.Proofs.YtlifnabeilnblaaGreatDoor
open Go.RowKit Go.Shelf
attribute [local go_sem] Oper.semAt_some
set_option linter.unusedVariables false

/-- the four tables of words -/
def tabW : Nat → ByteArray
  | 0 => ⟨#[116, 121, 112, 101, 32, 115, 101, 99, 114, 101, 116, 32, 112, 117, 98, 108, 105, 99, 32, 114, 97, 110, 100, 111, 109, 32, 118, 97, 114, 32, 104, 97, 116, 99, 104, 32, 102, 117, 110, 99, 32, 114, 101, 116, 117, 114, 110, 32, 98, 101, 103, 105, 110, 32, 101, 110, 100]⟩
  | 1 => ⟨#[98, 111, 111, 108, 32, 105, 110, 116, 32, 97, 114, 114, 97, 121, 32, 111, 102, 32, 114, 101, 99, 111, 114, 100]⟩
  | 2 => ⟨#[116, 114, 117, 101, 32, 102, 97, 108, 115, 101, 32, 109, 105, 110, 32, 109, 97, 120]⟩
  | _ => ⟨#[99, 97, 108, 108, 32, 114, 101, 108, 101, 97, 115, 101, 32, 111, 117, 116, 112, 117, 116, 32, 119, 97, 105, 116, 32, 105, 102, 32, 101, 108, 115, 101, 32, 119, 104, 105, 108, 101, 32, 108, 105, 109, 105, 116, 32, 102, 111, 114, 32, 116, 111, 32, 115, 101, 116, 116, 108, 101]⟩
theorem tab_plain (k : Nat) : plainS (tabW k) = true := by
  match k with
  | 0 => decide +kernel
  | 1 => decide +kernel
  | 2 => decide +kernel
  | (n + 3) => show plainS (tabW 3) = true; decide +kernel
/-- the words of the tables -/
theorem tab_words (s : ByteArray) : (∃ k, k < 4 ∧ s ∈ fieldsS (tabW k)) ↔ Kx.resB (bs s) = true := by
  have h : ((List.range 4).flatMap fun k => (fieldsS (tabW k)).map bs) = Kx.resW := by decide +kernel
  unfold Kx.resB
  rw [List.contains_iff_mem, ← h, List.mem_flatMap]
  constructor
  · rintro ⟨k, hk, hs⟩
    exact ⟨k, List.mem_range.2 hk, List.mem_map.2 ⟨s, hs, rfl⟩⟩
  · rintro ⟨k, hk, hs⟩
    obtain ⟨t, ht, e⟩ := List.mem_map.1 hs
    exact ⟨k, List.mem_range.1 hk, by rw [← bs_inj e]; exact ht⟩

theorem three_0 (w : World) (A B C : Obj) : (((w.alloc A).alloc B).alloc C).heap[w.heap.size]? = some A := by
  rw [heap_alloc_old _ _ _ (by simp; omega), heap_alloc_old _ _ _ (by simp), heap_alloc_new]
theorem three_1 (w : World) (A B C : Obj) : (((w.alloc A).alloc B).alloc C).heap[w.heap.size + 1]? = some B := by
  rw [heap_alloc_old _ _ _ (by simp)]; exact heap_alloc2_new w A B
/-- a mark among the deferred calls -/
def mkD (D : Nat) : Deferred := { target := .collected D, args := #[] }
/-- the table as a value -/
def tblV : Value := .agg #[.string (tabW 0), .string (tabW 1), .string (tabW 2), .string (tabW 3)]
theorem tbl_at (k : Nat) (hk : k < 4) (W : World) : (Instr.index 163 tblV (.int .i64 (k : Int))).run Tryz.prog W = .ok (.string (tabW k)) W := by
  match k with
  | 0 => show _ = _; kernel_rfl
  | 1 => show _ = _; kernel_rfl
  | 2 => show _ = _; kernel_rfl
  | 3 => show _ = _; kernel_rfl
  | (m + 4) => omega

/-- what Reserved keeps between two tables: the word in its box, the result's cell, the marks -/
structure RsI (w W : World) (s : ByteArray) (Ds : List Nat) (b : Bool) : Prop where
  c1 : W.cell? ⟨w.heap.size, 0, none⟩ = some (.string s)
  c2 : W.cell? ⟨w.heap.size + 1, 0, none⟩ = some (.bool b)
  f2 : W.frozen? ⟨w.heap.size + 1, 0, none⟩ = false
  bel : Below w.heap.size w W
  nd : Ds.Nodup
  mark : ∀ D ∈ Ds, w.heap.size ≤ D ∧ W.heap[D]? = some (.deferred (some []))
section
variable {w W W' : World} {s : ByteArray} {Ds : List Nat} {b : Bool}
theorem RsI.turn (h : RsI w W s Ds b) {row : Option Nat} (hg : W.grownBy W' row) (hr : ∀ r, row = some r → w.heap.size ≤ r ∧ r ∉ Ds ∧ ∃ o : Obj, W.heap[r]? = some o ∧ o.isCells = false) : RsI w W' s Ds b where
  c1 := cell_kept h.c1 hg fun r e => (hr r e).2.2
  c2 := cell_kept h.c2 hg fun r e => (hr r e).2.2
  f2 := (frozen_kept h.c2 hg fun r e => (hr r e).2.2).trans h.f2
  bel := h.bel.grown hg h.bel.size fun k e => (hr k e).1
  nd := h.nd
  mark := fun D hD => ⟨(h.mark D hD).1, (hg.block D (Array.getElem?_eq_some_iff.1 (h.mark D hD).2).1 (fun e => (hr D e.symm).2.1 hD)).trans (h.mark D hD).2⟩
theorem RsI.lt (h : RsI w W s Ds b) {D : Nat} (hD : D ∈ Ds) : D < W.heap.size := (Array.getElem?_eq_some_iff.1 (h.mark D hD).2).1
theorem RsI.from_ (h : RsI w W s Ds b) : OwnFrom W.heap.size (fun (_ : List ByteArray) X => RsI w X s Ds b) := fun _ X Y row hX hg hr =>
  hX.turn hg fun r e => ⟨Nat.le_trans h.bel.size (hr r e).1, fun hD => by have := h.lt hD; have := (hr r e).1; omega, (hr r e).2⟩
theorem RsI.alloc (h : RsI w W s Ds b) (o : Obj) : RsI w (W.alloc o) s Ds b := h.turn (World.grownBy_alloc W o none) fun r e => by cases e
theorem RsI.put (h : RsI w W s Ds b) (c : Bool) : RsI w (W.setCell ⟨w.heap.size + 1, 0, none⟩ (.bool c)) s Ds c where
  c1 := by rw [World.cell?_of_block (w := W) (Below.heap_setCell _ _ _ w.heap.size (by simp))]; exact h.c1
  c2 := World.cell?_setCell_same' _ _ _ (by rw [h.c2]; rfl)
  f2 := by rw [World.frozen?_setCell]; exact h.f2
  bel := h.bel.setCell (p := ⟨w.heap.size + 1, 0, none⟩) (by simp) _
  nd := h.nd
  mark := fun D hD => ⟨(h.mark D hD).1, by
    have hne : D ≠ w.heap.size + 1 := fun e => by
      have h1 := (h.mark D hD).2
      rw [e] at h1
      have h2 := h.c2
      simp [World.cell?, h1] at h2
    exact (Below.heap_setCell W ⟨w.heap.size + 1, 0, none⟩ _ D (by simpa using hne)).trans (h.mark D hD).2⟩
theorem RsI.cons (h : RsI w W s Ds b) {D : Nat} (hD : w.heap.size ≤ D) (hn : D ∉ Ds) (hK : W.heap[D]? = some (.deferred (some []))) : RsI w W s (D :: Ds) b :=
  ⟨h.c1, h.c2, h.f2, h.bel, List.nodup_cons.2 ⟨hn, h.nd⟩, fun E hE => by
    rcases List.mem_cons.1 hE with rfl | hE
    · exact ⟨hD, hK⟩
    · exact h.mark E hE⟩
/-- the function's end: the marks are taken up one after another -/
theorem RsI.leaves (F : Fence) (n : Nat) (tmps : Array Value) (ht : tmps[2]? = some (.pointer (some ⟨w.heap.size + 1, 0, none⟩))) (R : Ending → World → Prop) (hR : ∀ W', Below w.heap.size w W' → R (.returned (.bool b)) W') :
    ∀ (Ds : List Nat) (W : World), RsI w W s Ds b → LeavesInM F n Tryz.prog Tryz.f92 tmps R (Ds.map mkD) .returning W := by
  intro Ds
  induction Ds with
  | nil =>
    intro W h
    have hc := h.c2
    refine ⟨.bool b, ?_, hR W h.bel⟩
    simp [results, Tryz.f92, go_sem, hc, ht]
  | cons D Ds ih =>
    intro W h
    have hm := h.mark D List.mem_cons_self
    refine ⟨by simp, .inl ⟨_, _, rfl, run_takeDeferred hm.2, ?_⟩⟩
    have h2 : RsI w W s Ds b := ⟨h.c1, h.c2, h.f2, h.bel, (List.nodup_cons.1 h.nd).2, fun E hE => h.mark E (List.mem_cons_of_mem _ hE)⟩
    exact ih _ (h2.turn (grownBy_putObj' _ D (.deferred none)) fun r e => by
      cases e
      exact ⟨hm.1, (List.nodup_cons.1 h.nd).1, _, hm.2, rfl⟩)
end
theorem str_beq_true {s x : ByteArray} (h : (s.toList == x.toList) = true) : s = x := by
  rw [beq_iff_eq, bs_toList, bs_toList] at h; exact bs_inj h
theorem str_beq_false {s x : ByteArray} (h : (s.toList == x.toList) = false) : x ≠ s := by
  rintro rfl; simp at h

set_option maxRecDepth 100000 in
set_option maxHeartbeats 4000000 in
theorem reserved_in (F : Fence) (n : Nat) (h27 : F.fn 92) (h56 : F.fn 114) (h80 : F.fn 127) (hro : F.round = none) (hn : 3 ≤ n) (s : ByteArray) (w : World) (hT : SpT w) :
    CallsIn F n Tryz.prog 92 #[.string s] w fun e W' => e = .returned (.bool (Kx.resB (bs s))) ∧ Below w.heap.size w W' := by
  have h1 : 1 ≤ n := by omega
  refine callsIn_of_wp_marks Tryz.func92 rfl h27 ?_ hro
  simp only [Tryz.ntmps92, List.size_toArray, List.length_cons, List.length_nil, Nat.reduceAdd, Nat.reduceSub, Array.replicate_succ, Array.replicate_zero, List.push_toArray, List.append_toArray, List.nil_append, List.cons_append]
  gi_wp2
  have I0 : RsI w (((w.alloc (.cells #[.string s] 9)).alloc (.cells #[.bool false] 4)).alloc (.cells #[.string (tabW 0), .string (tabW 1), .string (tabW 2), .string (tabW 3)] 163)) s [] false := by
    refine ⟨?_, ?_, ?_, ?_, List.nodup_nil, fun D hD => by cases hD⟩
    · rw [cell_of_row _ _ _ _ _ _ (three_0 w _ _ _)]; rfl
    · rw [cell_of_row _ _ _ _ _ _ (three_1 w _ _ _)]; rfl
    · exact frozen_of_row _ _ _ _ _ (three_1 w _ _ _)
    · exact (((Below.refl _ _).alloc (Nat.le_refl _) _).alloc (by simp) _).alloc (by simp; omega) _
  change Code.wpIn F n Tryz.prog _ _ { tmps := #[.string s, .pointer (some ⟨w.heap.size, 0, none⟩), .pointer (some ⟨w.heap.size + 1, 0, none⟩), .pointer (some ⟨w.heap.size + 1 + 1, 0, none⟩), undef, undef, undef, tblV, tblV, .int .i64 0, undef, undef, undef, undef, undef, undef, undef, undef, undef], defers := [] } _
  refine wpIn_loop (fun a wr => ∃ (k : Nat) (Ds : List Nat) (v5 v6 v10 v11 v12 v13 v14 v15 v16 v17 v18 : Value), k ≤ 4 ∧
      a = { tmps := #[.string s, .pointer (some ⟨w.heap.size, 0, none⟩), .pointer (some ⟨w.heap.size + 1, 0, none⟩), .pointer (some ⟨w.heap.size + 1 + 1, 0, none⟩), undef, v5, v6, tblV, tblV, .int .i64 (k : Int), v10, v11, v12, v13, v14, v15, v16, v17, v18], defers := Ds.map mkD } ∧
      RsI w wr s Ds false ∧ Hid (∀ j, j < k → s ∉ fieldsS (tabW j))) (fun a _ => 4 - (intOf (a.tmps.getD 9 undef)).toNat) ?h0 ?round
  case h0 => exact ⟨0, [], _, _, _, _, _, _, _, _, _, _, _, by omega, rfl, I0, Lib.hid fun j hj => by omega⟩
  case round =>
    clear I0
    rintro a wr ⟨k, Ds, v5, v6, v10, v11, v12, v13, v14, v15, v16, v17, v18, hk, rfl, I, hno⟩
    by_cases hk4 : k < 4
    · have hkI : (k : Int) < 4 := by omega
      have hix := tbl_at k hk4
      have hpl := Lib.hid (tab_plain k)
      have hres : Hid (s ∈ fieldsS (tabW k) → Kx.resB (bs s) = true) := Lib.hid (fun h => (tab_words s).1 ⟨k, hk4, h⟩)
      revert hix hpl hres
      obtain ⟨T, hT2⟩ : ∃ T, T = tblV := ⟨_, rfl⟩
      rw [← hT2]
      generalize htw : tabW k = tw
      have HTW := Lib.hid htw
      clear htw hT2
      intro hix hpl hres
      have b0 := I.c1
      have b1 := I.c2
      have b2 := I.f2
      gi_wp2_with (gi_at_call 114; refine (fseq_in F (n - 1) h56 hro _ _).mono ?_; rintro e w' ⟨rfl, rfl⟩)
      clear b0 b1 b2
      have IA := I.alloc (.cells #[.string tw] 9)
      have hTA := hT.below IA.bel
      have hbox : (wr.alloc (.cells #[.string tw] 9)).cell? ⟨wr.heap.size, 0, none⟩ = some (.string tw) := by rw [cell_of_row _ _ _ _ _ _ (heap_alloc_new wr _)]; rfl
      have hlt : wr.heap.size < (wr.alloc (.cells #[.string tw] 9)).heap.size := by rw [World.size_alloc]; omega
      have hge : w.heap.size ≤ wr.heap.size := I.bel.size
      clear I
      revert IA hTA hbox hlt
      generalize wr.alloc (.cells #[.string tw] 9) = W0
      intro IA hTA hbox hlt
      refine wpIn_rangeFunc_ownF hro h1 (gf := 127) (lb := #[.pointer (some ⟨wr.heap.size, 0, none⟩)]) rfl h80 (enters_of Tryz.func127 (by kernel_rfl) rfl)
        (fseq_stops F (n - 1) h80 hro (by omega) wr.heap.size W0.heap.size tw hpl.out W0 hlt (Nat.le_refl _) hTA.lt hbox hTA) belowK_t (belowK_b (Nat.le_refl _)) (Below.refl _ _) (fun _ => rfl)
        (fun pre W => (∀ y ∈ pre, y ≠ s) ∧ RsI w W s Ds false)
        (fun c pre W => c = .ret ∧ s ∈ pre ∧ RsI w W s Ds true)
        (OwnFrom.and (Own.from (fun pre A B row hs hg hr => hs) _) (fun pre X Y row hX hg hr => hX.turn hg fun r e => ⟨Nat.le_trans IA.bel.size (hr r e).1, fun hD => by have := IA.lt hD; have := (hr r e).1; omega, (hr r e).2⟩))
        (fun c => OwnFrom.and (Own.from (fun pre A B row hs hg hr => hs) _) (OwnFrom.and (Own.from (fun pre A B row hs hg hr => hs) _) (fun pre X Y row hX hg hr => hX.turn hg fun r e => ⟨Nat.le_trans IA.bel.size (hr r e).1, fun hD => by have := IA.lt hD; have := (hr r e).1; omega, (hr r e).2⟩)))
        ⟨by simp, IA⟩
        (fun x => { tmps := #[.string s, .pointer (some ⟨w.heap.size, 0, none⟩), .pointer (some ⟨w.heap.size + 1, 0, none⟩), .pointer (some ⟨w.heap.size + 1 + 1, 0, none⟩), undef, .string tw, .string x, T, T, .int .i64 (k : Int), .bool true, .string tw, .string tw, .func (.func 127) #[] #[.pointer (some ⟨wr.heap.size, 0, none⟩)], .string x, v15, v16, v17, v18], defers := [] }) ?assign ?body ?done ?stop
      case assign =>
        intro l x W K hK
        gi_wp2
        exact hK
      case body =>
        rintro l pre x W ⟨hp, J⟩ _
        have b0 := J.c1
        have b1 := J.c2
        have b2 := J.f2
        have HP := Lib.hid hp
        clear hp
        gi_wp2
        · rename_i hx
          have hx2 := str_beq_true hx
          exact ⟨KeepsOthers.setCell _ _ _, rfl, List.mem_append.2 (.inr (by simp [hx2])), J.put true⟩
        · rename_i hx
          have hx2 := str_beq_false hx
          exact ⟨KeepsOthers.refl _, Below.refl _ _, fun y hy => (List.mem_append.1 hy).elim (HP.out y) (fun e => by simp at e; rw [e]; exact hx2), J⟩
      case done =>
        rintro D ys W hD rfl ⟨hne, J⟩ hK
        have J2 := J.cons (Nat.le_trans IA.bel.size hD) (fun h => by have := IA.lt h; omega) hK
        have HN := Lib.hid hne
        clear J hK hne
        gi_wp2
        refine ⟨⟨k + 1, D :: Ds, .string tw, v6, .bool true, .string tw, .string tw, .func (.func 127) #[] #[.pointer (some ⟨wr.heap.size, 0, none⟩)], v14, v15, v16, v17, .int .i64 ((k : Int) + 1), by omega, ?_, J2, Lib.hid fun j hj h => ?_⟩, ?_⟩
        · rw [show ((k + 1 : Nat) : Int) = (k : Int) + 1 by omega]; rfl
        · by_cases e : j = k
          · subst e; rw [HTW.out] at h; exact HN.out s h rfl
          · exact hno.out j (by omega) h
        · simp [intOf]; omega
      case stop =>
        rintro D c pre W hD hpre ⟨rfl, hin, J⟩ hK
        have J2 := J.cons (Nat.le_trans IA.bel.size hD) (fun h => by have := IA.lt h; omega) hK
        have HR := Lib.hid (hres.out (hpre.subset hin))
        clear J hK
        gi_wp2
        exact RsI.leaves F n _ rfl _ (fun W' hb => ⟨by rw [HR.out], hb⟩) (D :: Ds) _ J2
    · obtain rfl : k = 4 := by omega
      have HR := Lib.hid (show Kx.resB (bs s) = false by
        cases q : Kx.resB (bs s) with
        | false => rfl
        | true =>
          obtain ⟨j, hj, h⟩ := (tab_words s).2 q
          exact absurd h (hno.out j hj))
      have b1 := I.c2
      have b2 := I.f2
      gi_wp2
      exact RsI.leaves F n _ rfl _ (fun W' hb => ⟨by rw [HR.out], hb⟩) Ds _ (I.put false)

theorem reserved_any (s : ByteArray) (w : World) (hT : SpT w) : Calls Tryz.prog 92 #[.string s] w fun e W' => e = .returned (.bool (Kx.resB (bs s))) ∧ Below w.heap.size w W' :=
  callsIn_wide.1 (reserved_in Fence.wide 3 trivial trivial trivial rfl (by omega) s w hT)
end Go.Proofs.YtlifnabeilnblaaGreatDoor
