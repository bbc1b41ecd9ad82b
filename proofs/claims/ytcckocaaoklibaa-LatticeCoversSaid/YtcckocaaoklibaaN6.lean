/- Walks: New. -/
import Derived.Test.YtcckocaaoklibaaN5
import Derived.Laws.CopyRow
import Derived.Laws.OwnMore
import Derived.Deep.OwnRows
import Derived.Deep.DeepCutAuto
import Derived.BigRegion
import Derived.Deep.RegionWith
namespace Go.Proofs.Ytcckocaaoklibaa
open Go.RowKit Go.Maps
set_option linter.unusedVariables false

theorem sizeStr : (Try.prog.info? 9).map (·.size) = some 1 := by kernel_rfl
/-- texts as cells -/
def scells (ns : List ByteArray) : Array Value := (ns.map Value.string).toArray
/-- the block g is just these texts -/
def SBlk (w : World) (g : Nat) (ns : List ByteArray) : Prop := w.heap[g]? = some (.cells (scells ns) 9 (0, 0))
theorem SBlk.lt {w : World} {g : Nat} {ns : List ByteArray} (h : SBlk w g ns) : g < w.heap.size := (Array.getElem?_eq_some_iff.1 h).1
theorem SBlk.below {w w' : World} {g B : Nat} {ns : List ByteArray} (h : SBlk w g ns) (hb : Below B w w') (hg : g < B) : SBlk w' g ns := (hb.block g hg).trans h
theorem SBlk.new_ (w : World) (ns : List ByteArray) : SBlk (w.alloc (.cells (scells ns) 9)) w.heap.size ns := heap_alloc_new w _
theorem SBlk.alloc {w : World} {g : Nat} {ns : List ByteArray} (h : SBlk w g ns) (o : Obj) : SBlk (w.alloc o) g ns := (Below.heap_alloc w o g h.lt).trans h
theorem SBlk.far {w : World} {g : Nat} {ns : List ByteArray} (h : SBlk w g ns) {p : Addr} (hp : g ≠ p.block) (u : Value) : SBlk (w.setCell p u) g ns := (Below.heap_setCell w p u g hp).trans h
theorem SBlk.strs {w : World} {g B : Nat} {ns : List ByteArray} (h : SBlk w g ns) (hg : g < B) : Strs w B (some ⟨g, 0, none⟩) ns :=
  ⟨⟨fun _ => ⟨g, 0, rfl, hg, fun k u hu => by
    rw [Nat.zero_add, cell_of_row w g k _ _ _ h]
    simpa [scells] using hu⟩⟩⟩
theorem makeStrs (n : Nat) (hn : n ≤ 4096) (W : World) : (Instr.makeSlice 22 (.int .i64 (n : Int)) (.int .i64 (n : Int))).run Try.prog W = .ok (.slice (some ⟨W.heap.size, 0, none⟩) n n) (W.alloc (.cells (scells (List.replicate n ⟨#[]⟩)) 9)) := by
  have h := run_make_row' (P := Try.prog) 22 9 (.string ⟨#[]⟩) 16 Try.underlying22 (by kernel_rfl) rfl .i64 .i64 n (by omega) (by omega) W
  have e : madeCells #[.string ⟨#[]⟩] n = scells (List.replicate n ⟨#[]⟩) := by
    apply Array.ext
    · simp [madeCells, scells]
    · intro i h1 h2
      simp [madeCells, scells, Nat.mod_one]
  rw [e] at h
  exact h
theorem copyS (w : World) (ns : List ByteArray) (g b off c : Nat) (hg : SBlk w g (List.replicate ns.length ⟨#[]⟩)) (hsrc : ∀ j v, (ns.map Value.string)[j]? = some v → w.cell? ⟨b, off + j, none⟩ = some v) :
    ∃ w2, (Builtin.copy_ #[22, 22] 3 #[.slice (some ⟨g, 0, none⟩) ns.length ns.length, .slice (some ⟨b, off, none⟩) ns.length c]).run Try.prog w = .ok (goInt ns.length) w2 ∧ SBlk w2 g ns ∧ w.grownBy w2 (some g) := by
  have h := run_copy_row (P := Try.prog) w 22 22 3 9 g 0 ns.length ns.length ⟨b, off, none⟩ ns.length c (scells (List.replicate ns.length ⟨#[]⟩)) 9 (ns.map Value.string)
    Try.underlying22 sizeStr hg (by simp) (fun j v hv => by rw [Go.WideShapes.add_plain]; exact hsrc j v hv) (by simp [scells]) (fun v hv => by obtain ⟨x, _, rfl⟩ := List.mem_map.1 hv; rfl)
  have e : ((scells (List.replicate ns.length ⟨#[]⟩)).toList.take 0 ++ (ns.map Value.string) ++ (scells (List.replicate ns.length ⟨#[]⟩)).toList.drop (0 + (ns.map Value.string).length)).toArray = scells ns := by
    rw [List.drop_eq_nil_of_le (by simp [scells])]
    simp [scells]
  rw [e, List.length_map] at h
  exact ⟨_, h, setRow_heap _ _ _ _ _ _ hg, ⟨rfl, rfl, rfl, by simp [World.setRow], fun k _ hk => setRow_other _ _ _ _ (fun q => hk (by rw [q]))⟩⟩

/-- a lattice in memory -/
def PLat (w : World) (lb : Nat) (ns : List ByteArray) (L : Nat → Nat → Bool) : Prop :=
  ∃ An cn M Aa ca Ab cb, PL w lb ns.length An cn (.map (some M)) Aa ca Ab cb L ∧ Strs w w.heap.size An ns ∧ w.ownsMap Try.prog 9 (plainElem Try.prog 3) M ns.length (Kl.Dn (nmAt ns) ns.length)
theorem PLat.below {w wx : World} {lb : Nat} {ns : List ByteArray} {L : Nat → Nat → Bool} (h : PLat w lb ns L) (hb : Below w.heap.size w wx) : PLat wx lb ns L := by
  obtain ⟨An, cn, M, Aa, ca, Ab, cb, h1, h2, h3⟩ := h
  exact ⟨An, cn, M, Aa, ca, Ab, cb, h1.below hb, h2.at hb, h3.kept (row := none) ⟨hb.os, hb.tape, hb.output, hb.size, fun k hk _ => hb.block k hk⟩ (by simp)⟩

namespace Kl
/-- the code of names and pairs -/
def newC (ns : List ByteArray) (ps : List (Int × Int)) : Int :=
  if ns.length = 0 ∨ 12 < ns.length then 4 else if nmC (nmAt ns) ns.length ≠ 0 then nmC (nmAt ns) ns.length else if inP ns.length ps then ckC (le ns.length ps) ns.length else 3
end Kl
/-- what New hands back -/
def NewRes (ns : List ByteArray) (ps : List (Int × Int)) (w : World) (e : Ending) (w' : World) : Prop :=
  Below w.heap.size w w' ∧ ((Kl.newC ns ps ≠ 0 ∧ e = .returned (.tuple #[.pointer none, .int .i64 (Kl.newC ns ps)])) ∨ (Kl.newC ns ps = 0 ∧ ∃ lb, e = .returned (.tuple #[.pointer (some ⟨lb, 0, none⟩), .int .i64 0]) ∧ PLat w' lb ns (Kl.le ns.length ps)))
theorem NewRes.bad {ns : List ByteArray} {ps : List (Int × Int)} {w w' : World} {code : Int} (h : Kl.newC ns ps = code) (h0 : code ≠ 0) (hb : Below w.heap.size w w') : NewRes ns ps w (.returned (.tuple #[.pointer none, .int .i64 code])) w' :=
  ⟨hb, .inl ⟨by rw [h]; exact h0, by rw [h]⟩⟩

/-- New's world behind the map -/
structure NwInv (w wr : World) (ns : List ByteArray) : Prop where
  mp : wr.ownsMap Try.prog 9 (plainElem Try.prog 3) w.heap.size ns.length (Kl.Dn (nmAt ns) ns.length)
  bel : Below w.heap.size w wr
theorem NwInv.alloc {w wr : World} {ns : List ByteArray} (h : NwInv w wr ns) (o : Obj) : NwInv w (wr.alloc o) ns := ⟨h.mp.alloc o, h.bel.alloc h.bel.size o⟩
theorem NwInv.drew {w wr : World} {ns : List ByteArray} (h : NwInv w wr ns) : NwInv w wr.drew ns := ⟨h.mp.drew, h.bel.drew⟩
theorem NwInv.below {w wr wx : World} {ns : List ByteArray} (h : NwInv w wr ns) (hb : Below wr.heap.size wr wx) : NwInv w wx ns :=
  ⟨h.mp.kept (row := none) ⟨hb.os, hb.tape, hb.output, hb.size, fun k hk _ => hb.block k hk⟩ (by simp), h.bel.trans (hb.mono h.bel.size)⟩

/-- New's world behind the box -/
structure Nw2 (w wx : World) (ns : List ByteArray) (L : Nat → Nat → Bool) (lb gn ga : Nat) (ms : List ByteArray) : Prop where
  K : NwInv w wx ns
  four : Four wx lb (.slice (some ⟨gn, 0, none⟩) ns.length ns.length) (.map (some w.heap.size)) (.slice (some ⟨ga, 0, none⟩) ns.length ns.length) (.slice none 0 0)
  nmb : SBlk wx gn ms
  ab : WBlk wx ga (Kl.rows ns.length L)
  hl : w.heap.size < lb
  hn : w.heap.size < gn
  nl : gn ≠ lb
  al : ga ≠ lb
  na : ga ≠ gn
theorem Nw2.below {w wr wx : World} {ns : List ByteArray} {L : Nat → Nat → Bool} {lb gn ga : Nat} {ms : List ByteArray} (h : Nw2 w wr ns L lb gn ga ms) (hb : Below wr.heap.size wr wx) : Nw2 w wx ns L lb gn ga ms :=
  ⟨h.K.below hb, h.four.below hb h.four.lt, h.nmb.below hb h.nmb.lt, h.ab.below hb h.ab.lt, h.hl, h.hn, h.nl, h.al, h.na⟩
theorem Nw2.grown {w wr wx : World} {ns : List ByteArray} {L : Nat → Nat → Bool} {lb gn ga : Nat} {ms ms' : List ByteArray} (h : Nw2 w wr ns L lb gn ga ms) (hg : wr.grownBy wx (some gn)) (hs : SBlk wx gn ms') : Nw2 w wx ns L lb gn ga ms' where
  K := ⟨h.K.mp.kept hg (by have := h.hn; simp; omega), h.K.bel.grown hg h.K.bel.size (fun k e => by cases e; have := h.hn; omega)⟩
  four := by
    obtain ⟨T, hT⟩ := h.four.blk
    exact ⟨T, (hg.block lb h.four.lt (by have := h.nl; simp; omega)).trans hT⟩
  nmb := hs
  ab := (hg.block ga h.ab.lt (by have := h.na; simp; omega)).trans h.ab
  hl := h.hl
  hn := h.hn
  nl := h.nl
  al := h.al
  na := h.na

theorem nw_a {w wr w4 : World} {ns : List ByteArray} {L : Nat → Nat → Bool} {ga : Nat} (K : NwInv w wr ns) (hM : w.heap.size < wr.heap.size) (hga : (wr.drew.alloc (.cells (scells (List.replicate ns.length ⟨#[]⟩)) 9)).heap.size ≤ ga) (hW : WBlk w4 ga (Kl.rows ns.length L))
    (hb4 : Below (wr.drew.alloc (.cells (scells (List.replicate ns.length ⟨#[]⟩)) 9)).heap.size (wr.drew.alloc (.cells (scells (List.replicate ns.length ⟨#[]⟩)) 9)) w4) :
    Nw2 w (w4.alloc (.cells #[.slice (some ⟨wr.heap.size, 0, none⟩) ns.length ns.length, .map (some w.heap.size), .slice (some ⟨ga, 0, none⟩) ns.length ns.length, .slice none 0 0] 51)) ns L w4.heap.size wr.heap.size ga (List.replicate ns.length ⟨#[]⟩) := by
  have h1 : wr.heap.size + 1 ≤ w4.heap.size := by have := hb4.size; rw [World.size_alloc] at this; exact this
  have h2 : wr.heap.size + 1 ≤ ga := by rw [World.size_alloc] at hga; exact hga
  have h3 := hW.lt
  have hS : SBlk (wr.drew.alloc (.cells (scells (List.replicate ns.length ⟨#[]⟩)) 9)) wr.heap.size (List.replicate ns.length ⟨#[]⟩) := SBlk.new_ wr.drew _
  exact ⟨((K.drew.alloc _).below hb4).alloc _, Four.new_ _ _ _ _ _ _, (hS.below hb4 hS.lt).alloc _, hW.alloc _, by omega, hM, by omega, by omega, by omega⟩
theorem nw_b {w wr w4 : World} {ns : List ByteArray} {L : Nat → Nat → Bool} {ga : Nat} (K : NwInv w wr ns) (hM : w.heap.size < wr.heap.size) (hga : wr.drew.heap.size ≤ ga) (hW : WBlk w4 ga (Kl.rows ns.length L)) (hb4 : Below wr.drew.heap.size wr.drew w4) :
    Nw2 w ((w4.alloc (.cells (scells (List.replicate ns.length ⟨#[]⟩)) 9)).alloc (.cells #[.slice (some ⟨w4.heap.size, 0, none⟩) ns.length ns.length, .map (some w.heap.size), .slice (some ⟨ga, 0, none⟩) ns.length ns.length, .slice none 0 0] 51)) ns L (w4.heap.size + 1) w4.heap.size ga (List.replicate ns.length ⟨#[]⟩) := by
  have h1 : wr.heap.size ≤ w4.heap.size := hb4.size
  have h2 : wr.heap.size ≤ ga := hga
  have h3 := hW.lt
  have hf := Four.new_ (w4.alloc (.cells (scells (List.replicate ns.length ⟨#[]⟩)) 9)) (.slice (some ⟨w4.heap.size, 0, none⟩) ns.length ns.length) (.map (some w.heap.size)) (.slice (some ⟨ga, 0, none⟩) ns.length ns.length) (.slice none 0 0) 51
  rw [World.size_alloc] at hf
  exact ⟨((K.drew.below hb4).alloc _).alloc _, hf, (SBlk.new_ _ _).alloc _, (hW.alloc _).alloc _, by omega, by omega, by omega, by omega, by omega⟩

set_option maxRecDepth 100000 in
set_option maxHeartbeats 4000000 in
theorem new_any (A : Option Addr) (c : Nat) (ns : List ByteArray) (B : Option Addr) (cb : Nat) (ps : List (Int × Int)) (w : World) (h : Strs w w.heap.size A ns) (hp : Prs w w.heap.size B ps) (hls : ns.length ≤ 1000) (hl : ps.length ≤ 1000000) :
    Calls Try.prog 8 #[.slice A ns.length c, .slice B ps.length cb] w (NewRes ns ps w) := by
  by_cases h0 : ns.length = 0
  · have hR := Lib.hid (show Kl.newC ns ps = 4 by unfold Kl.newC; rw [if_pos (Or.inl h0)])
    have h0' : ((ns.length : Int) == 0) = true := by simp [h0]
    have H0 := Lib.hid h0
    clear h0
    go_enter Try.func8, Try.ntmps8
    go_wp2_with fail
    go_ret2
    exact NewRes.bad hR.out (by decide) (Below.refl _ _)
  by_cases h12 : 12 < ns.length
  · have hR := Lib.hid (show Kl.newC ns ps = 4 by unfold Kl.newC; rw [if_pos (Or.inr h12)])
    have h0' : ((ns.length : Int) == 0) = false := by rw [beq_eq_false_iff_ne]; omega
    have h12' : (12 : Int) < (ns.length : Int) := by omega
    have H0 := Lib.hid h0
    clear h0
    go_enter Try.func8, Try.ntmps8
    go_wp2_with fail
    go_ret2
    exact NewRes.bad hR.out (by decide) (Below.refl _ _)
  have h0' : ((ns.length : Int) == 0) = false := by rw [beq_eq_false_iff_ne]; omega
  have h12' : ¬ (12 : Int) < (ns.length : Int) := by omega
  have hlen : Hid (¬ (ns.length = 0 ∨ 12 < ns.length)) := Lib.hid (by omega)
  have hn12 : ns.length ≤ 12 := by omega
  have hn0 : 0 < ns.length := by omega
  clear h0 h12
  go_enter Try.func8, Try.ntmps8
  go_wp2_with fail
  refine (number_any A c ns _ h hls).mono ?_
  rintro e w1 ⟨hb1, code, ⟨hc0, hcode, rfl⟩ | ⟨hz, rfl, hmp⟩⟩
  · have hR := Lib.hid (show Kl.newC ns ps = code by unfold Kl.newC; rw [if_neg hlen.out, hcode, if_pos hc0])
    have hcb : (code != 0) = true := by simpa using hc0
    have HC := Lib.hid hcode
    clear hcode
    go_wp2_with fail
    go_ret2
    exact NewRes.bad hR.out hc0 hb1
  have HZ := Lib.hid hz
  clear hz
  have K0 : NwInv w w1 ns := ⟨hmp, hb1⟩
  clear hmp hb1
  go_wp2_with fail
  go_loopw [30] (fun iv wr => ∃ q : Nat, q ≤ ps.length ∧ iv = .int .i64 q ∧ Hid (∀ j, j < q → lvB (prAt ps j).1 ns.length = true ∧ lvB (prAt ps j).2 ns.length = true) ∧ NwInv w wr ns) (fun iv _ => ps.length - (intOf iv).toNat)
  case atStart => exact ⟨0, Nat.zero_le _, rfl, Lib.hid fun j h => by omega, K0⟩
  case round =>
    clear K0
    obtain ⟨q, hq, rfl, hin, K⟩ := hrel
    by_cases hlq : q < ps.length
    · obtain ⟨b, off, x, y, rfl, hb, hcx, hcy, hxy⟩ := (hp.below K.bel).at_ hlq
      have hbad : Hid ((lvB x ns.length && lvB y ns.length) = false → Kl.newC ns ps = 3) := Lib.hid fun hh => by
        have : inP ns.length ps = false := by
          unfold inP
          rw [List.all_eq_false]
          refine ⟨prAt ps q, by unfold prAt; rw [List.getD_eq_getElem?_getD, List.getElem?_eq_getElem hlq]; exact List.getElem_mem hlq, ?_⟩
          rw [← hxy.out.1, ← hxy.out.2, hh]; decide
        unfold Kl.newC
        rw [if_neg hlen.out, if_neg (by rw [HZ.out]; decide), this]; rfl
      have hnext : Hid ((lvB x ns.length && lvB y ns.length) = true → ∀ j, j < q + 1 → lvB (prAt ps j).1 ns.length = true ∧ lvB (prAt ps j).2 ns.length = true) := Lib.hid fun hh j hj => by
        by_cases e : j = q
        · subst e; rw [← hxy.out.1, ← hxy.out.2]; rwa [Bool.and_eq_true] at hh
        · exact hin.out j (by omega)
      have hl1 : ∀ W : World, Calls Try.prog 18 #[.int .i64 x, .int .i64 (ns.length : Int)] W fun e w' => e = .returned (.bool (lvB x ns.length)) ∧ W = w' := fun W => level_any x _ W
      have hl2 : ∀ W : World, Calls Try.prog 18 #[.int .i64 y, .int .i64 (ns.length : Int)] W fun e w' => e = .returned (.bool (lvB y ns.length)) ∧ W = w' := fun W => level_any y _ W
      have HL1 := Lib.hid hl1
      have HL2 := Lib.hid hl2
      clear hl1 hl2
      revert hbad hnext HL1 HL2
      generalize lvB x ns.length = s1
      generalize lvB y ns.length = s2
      intro hbad hnext HL1 HL2
      go_wp2_with fail
      refine (HL1.out _).mono ?_
      rintro e w2 ⟨rfl, rfl⟩
      cases s1 with
      | false =>
        have hR := Lib.hid (hbad.out rfl)
        go_wp2_with fail
        go_ret2
        exact NewRes.bad hR.out (by decide) (K.alloc _).bel
      | true =>
        go_wp2_with fail
        refine (HL2.out _).mono ?_
        rintro e w2 ⟨rfl, rfl⟩
        cases s2 with
        | false =>
          have hR := Lib.hid (hbad.out rfl)
          go_wp2_with fail
          go_ret2
          exact NewRes.bad hR.out (by decide) (K.alloc _).bel
        | true =>
          have hR := Lib.hid (hnext.out rfl)
          go_wp2_with fail
          go_roundw
          case rel => exact ⟨q + 1, by omega, by go_num, hR, K.alloc _⟩
          case measure => simp [intOf]; omega
    · obtain rfl : q = ps.length := by omega
      have hinP : Hid (inP ns.length ps = true) := Lib.hid (by
        unfold inP
        rw [List.all_eq_true]
        intro p hp
        obtain ⟨j, hj, rfl⟩ := List.getElem_of_mem hp
        have := hin.out j hj
        unfold prAt at this
        rw [List.getD_eq_getElem?_getD, List.getElem?_eq_getElem hj] at this
        rw [Bool.and_eq_true]; exact this)
      have hNC : Hid (Kl.newC ns ps = Kl.ckC (Kl.le ns.length ps) ns.length) := Lib.hid (by
        unfold Kl.newC
        rw [if_neg hlen.out, if_neg (by rw [HZ.out]; decide), if_pos hinP.out])
      have hpre := Lib.hid (Kl.le_refl ns.length ps)
      have hmk := makeStrs ns.length (by omega)
      clear hin
      go_wp2_with fail
      go_cut [10] (fun s10 wx => ∃ lb gn ga, s10 = .pointer (some ⟨lb, 0, none⟩) ∧ Nw2 w wx ns (Kl.le ns.length ps) lb gn ga (List.replicate ns.length ⟨#[]⟩))
      case first =>
        have hz0 := K.bel.size
        have hM := K.mp.lt
        have K1 := K.drew
        go_region_with (first
          | (go_at_call 19; refine (closure_ok ns.length hn12 B cb ps _ (hp.at K1.bel) hl hinP.out).mono ?_; rintro e w4 ⟨ga, hga, rfl, hW, hb4⟩)
          | (go_at_call 19; refine (closure_ok ns.length hn12 B cb ps _ (hp.at (K1.alloc _).bel) hl hinP.out).mono ?_; rintro e w4 ⟨ga, hga, rfl, hW, hb4⟩))
        all_goals
          go_wp2_with fail
          go_meet
          first
            | exact ⟨_, _, _, rfl, nw_a K hM hga hW hb4⟩
            | exact ⟨_, _, _, rfl, nw_b K hM hga hW hb4⟩
      case rest =>
        obtain ⟨lb, gn, ga, rfl, P⟩ := hcut
        clear K hmk
        obtain ⟨b, off, hA, hbb, hcells⟩ := (h.below P.K.bel).row.cells (by simpa using hn0)
        subst hA
        obtain ⟨w2, hcp, hs2, hg2⟩ := copyS wc ns gn b off c P.nmb hcells
        clear hcells
        have P2 := P.grown hg2 hs2
        have c00 := P.four.c0
        have c22 := P2.four.c2
        go_wp2_with fail
        have hrl : ∀ x ∈ Kl.rows ns.length (Kl.le ns.length ps), x < 2 ^ 64 := Kl.rows_lt (by omega) _
        have HRL := Lib.hid hrl
        clear hrl
        refine (converse_ok ns.length hn12 (Kl.le ns.length ps) (some ⟨ga, 0, none⟩) ns.length _ (P2.ab.words P2.ab.lt HRL.out)).mono ?_
        rintro e w5 ⟨g2, hg2, rfl, hW2, hb5⟩
        have P3 := P2.below hb5
        have c33 := P3.four.c3
        have f33 := P3.four.fr 3
        have hne : g2 ≠ lb := by have := P2.four.lt; omega
        clear c00 c22 hcp P P2 hb5
        go_wp2_with fail
        have K4 : NwInv w (w5.setCell ⟨lb, 3, none⟩ (.slice (some ⟨g2, 0, none⟩) ns.length ns.length)) ns :=
          ⟨P3.K.mp.kept (row := some lb) ⟨rfl, rfl, rfl, by simp [World.setCell], fun k _ hk => Below.heap_setCell w5 _ _ k (fun e => hk (by rw [e]))⟩ (by have := P3.hl; simp; omega), P3.K.bel.setCell (by have := P3.hl; simp; omega) _⟩
        have hPL : PL (w5.setCell ⟨lb, 3, none⟩ (.slice (some ⟨g2, 0, none⟩) ns.length ns.length)) lb ns.length (some ⟨gn, 0, none⟩) ns.length (.map (some w.heap.size)) (some ⟨ga, 0, none⟩) ns.length (some ⟨g2, 0, none⟩) ns.length (Kl.le ns.length ps) := by
          have h1 : WBlk (w5.setCell ⟨lb, 3, none⟩ (.slice (some ⟨g2, 0, none⟩) ns.length ns.length)) ga (Kl.rows ns.length (Kl.le ns.length ps)) := P3.ab.far (by simpa using P3.al) _
          have h2 : WBlk (w5.setCell ⟨lb, 3, none⟩ (.slice (some ⟨g2, 0, none⟩) ns.length ns.length)) g2 (Kl.rows ns.length (Kl.flip (Kl.le ns.length ps))) := hW2.far (by simpa using hne) _
          exact ⟨P3.four.put3 _, h1.words h1.lt HRL.out, h2.words h2.lt (Kl.rows_lt (by omega) _)⟩
        have hSt : Strs (w5.setCell ⟨lb, 3, none⟩ (.slice (some ⟨g2, 0, none⟩) ns.length ns.length)) (w5.setCell ⟨lb, 3, none⟩ (.slice (some ⟨g2, 0, none⟩) ns.length ns.length)).heap.size (some ⟨gn, 0, none⟩) ns := by
          have h3 : SBlk (w5.setCell ⟨lb, 3, none⟩ (.slice (some ⟨g2, 0, none⟩) ns.length ns.length)) gn ns := P3.nmb.far (by simpa using P3.nl) _
          exact h3.strs h3.lt
        clear c33 f33 P3 hW2
        revert K4 hPL hSt
        generalize w5.setCell ⟨lb, 3, none⟩ (.slice (some ⟨g2, 0, none⟩) ns.length ns.length) = w6
        intro K4 hPL hSt
        refine (check_ok lb ns.length hn12 _ _ _ _ _ _ _ (Kl.le ns.length ps) hpre.out _ hPL).mono ?_
        rintro e w7 ⟨rfl, qq, rfl⟩
        have b7 := bDrewN w6 qq
        have K7 := K4.below b7
        have hPLat : PLat (w6.drewN qq) lb ns (Kl.le ns.length ps) := PLat.below ⟨_, _, _, _, _, _, _, hPL, hSt, K4.mp⟩ b7
        by_cases hck : Kl.ckC (Kl.le ns.length ps) ns.length = 0
        · have hR := Lib.hid (hNC.out.trans hck)
          rw [hck]
          clear hck
          go_wp2_with fail
          go_ret2
          exact ⟨K7.bel, .inr ⟨hR.out, lb, rfl, hPLat⟩⟩
        · have hcb : (Kl.ckC (Kl.le ns.length ps) ns.length != 0) = true := by simpa using hck
          have HCK := Lib.hid hck
          clear hck
          go_wp2_with fail
          go_ret2
          exact NewRes.bad hNC.out HCK.out K7.bel
end Go.Proofs.Ytcckocaaoklibaa
