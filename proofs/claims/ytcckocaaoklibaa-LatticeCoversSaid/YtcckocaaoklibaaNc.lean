/- Walks: the reference's New. -/
import Derived.Test.YtcckocaaoklibaaNb
import Derived.Test.YtcckocaaoklibaaN8
import Derived.Test.YtcckocaaoklibaaN9
namespace Go.Proofs.Ytcckocaaoklibaa
open Go.RowKit Go.Maps
set_option linter.unusedVariables false

theorem two_set (w : World) {b : Nat} {x y : Value} (u v : Value) (h0 : w.cell? ⟨b, 0, none⟩ = some x) (h1 : w.cell? ⟨b, 1, none⟩ = some y) :
    ((w.setCell ⟨b, 0, none⟩ u).setCell ⟨b, 1, none⟩ v).cell? ⟨b, 0, none⟩ = some u ∧ ((w.setCell ⟨b, 0, none⟩ u).setCell ⟨b, 1, none⟩ v).cell? ⟨b, 1, none⟩ = some v := by
  refine ⟨?_, ?_⟩
  · rw [World.cell?_setCell_other _ _ _ _ (by simp)]
    exact World.cell?_setCell_same _ _ _ h0
  · refine World.cell?_setCell_same _ _ _ (u := y) ?_
    rw [World.cell?_setCell_other _ _ _ _ (by simp)]
    exact h1

/-- the reference's New's world: its result's box -/
structure RnInv (w wr : World) : Prop where
  t : Two wr w.heap.size (.slice none 0 0) (.slice none 0 0)
  bel : Below w.heap.size w wr
theorem RnInv.below {w wr wx : World} (h : RnInv w wr) (hb : Below wr.heap.size wr wx) : RnInv w wx := ⟨h.t.below hb h.t.lt, h.bel.trans (hb.mono h.bel.size)⟩

theorem put2 {w wr : World} (h : Below w.heap.size w wr) (u v : Value) : Below w.heap.size w ((wr.setCell ⟨w.heap.size, 0, none⟩ u).setCell ⟨w.heap.size, 1, none⟩ v) :=
  (h.setCell (p := ⟨w.heap.size, 0, none⟩) (Nat.le_refl _) _).setCell (p := ⟨w.heap.size, 1, none⟩) (Nat.le_refl _) _
theorem list_ne {s t : ByteArray} (h : s ≠ t) : s.toList ≠ t.toList := fun e => by
  rw [ByteArray.toList_eq, ByteArray.toList_eq] at e
  exact h (Kl.sl_inj e)
theorem infoStr : (Try.prog.info? 9).map (fun i => (i.zero, i.size, i.bytes)) = some (some (.string ⟨#[]⟩), 1, 16) := by kernel_rfl
/-- the reference's New's world behind the lattice -/
structure RnL (w wx : World) (b11 : Nat) (An : Option Addr) (cn : Nat) (Al : Option Addr) (cl : Nat) (ns : List ByteArray) (L : Nat → Nat → Bool) : Prop where
  K : RnInv w wx
  T : Two wx b11 (.slice An ns.length cn) (.slice Al ns.length cl)
  S : Strs wx wx.heap.size An ns
  E : LeM wx wx.heap.size Al ns.length L
theorem RnL.below {w wx wy : World} {b11 : Nat} {An : Option Addr} {cn : Nat} {Al : Option Addr} {cl : Nat} {ns : List ByteArray} {L : Nat → Nat → Bool} (h : RnL w wx b11 An cn Al cl ns L) (hb : Below wx.heap.size wx wy) : RnL w wy b11 An cn Al cl ns L :=
  ⟨h.K.below hb, h.T.below hb h.T.lt, h.S.at hb, h.E.at hb⟩
theorem numI_neg {o : Option Nat} : (Kl.numI o < 0) = (o.isSome = false) := by
  cases o with
  | none => simp [Kl.numI]
  | some c => simp [Kl.numI]
theorem strs_put {w wx : World} {An : Option Addr} {ns : List ByteArray} {u v x y : Value} (h : Strs wx wx.heap.size An ns) (t : Two wx w.heap.size (.slice none 0 0) (.slice none 0 0)) : Strs ((wx.setCell ⟨w.heap.size, 0, none⟩ u).setCell ⟨w.heap.size, 1, none⟩ v) ((wx.setCell ⟨w.heap.size, 0, none⟩ u).setCell ⟨w.heap.size, 1, none⟩ v).heap.size An ns := by
  refine ⟨⟨fun hn => ?_⟩⟩
  obtain ⟨b, off, e, hb, hc⟩ := h.row.cells hn
  refine ⟨b, off, e, by simpa [World.setCell] using hb, fun k q hq => ?_⟩
  have hbw : b ≠ w.heap.size := fun q1 => by
    subst q1
    have h0 := hc 0 _ (List.getElem?_eq_getElem hn)
    obtain ⟨T, hT⟩ := t.blk
    rw [cell_of_row _ _ _ _ _ _ hT] at h0
    simp only [List.getElem_map] at h0
    match hk : off + 0 with
    | 0 => rw [hk] at h0; simp at h0
    | 1 => rw [hk] at h0; simp at h0
    | m + 2 => rw [hk] at h0; simp at h0
  rw [World.cell?_of_block (w := wx.setCell ⟨w.heap.size, 0, none⟩ u) (Below.heap_setCell _ _ _ b (by simpa using hbw)), World.cell?_of_block (w := wx) (Below.heap_setCell _ _ _ b (by simpa using hbw))]
  exact hc k q hq
theorem lem_put {w wx : World} {Al : Option Addr} {n : Nat} {L : Nat → Nat → Bool} {u v : Value} (h : LeM wx wx.heap.size Al n L) (hn : 0 < n) (t : Two wx w.heap.size (.slice none 0 0) (.slice none 0 0)) : LeM ((wx.setCell ⟨w.heap.size, 0, none⟩ u).setCell ⟨w.heap.size, 1, none⟩ v) ((wx.setCell ⟨w.heap.size, 0, none⟩ u).setCell ⟨w.heap.size, 1, none⟩ v).heap.size Al n L := by
  obtain ⟨gs, h1, h2, h3⟩ := h
  refine ⟨gs, h1, ⟨fun hp => ?_⟩, fun i g hg => ⟨by simpa [World.setCell] using (h3 i g hg).1, fun j hj => ?_⟩⟩
  · obtain ⟨b, off, e, hb, hc⟩ := h2.cells hp
    refine ⟨b, off, e, by simpa [World.setCell] using hb, fun k q hq => ?_⟩
    have hbw : b ≠ w.heap.size := fun q1 => by
      subst q1
      obtain ⟨g0, hg0⟩ : ∃ g, gs[0]? = some g := ⟨_, List.getElem?_eq_getElem (by omega)⟩
      have h0 := hc 0 (.slice (some ⟨g0, 0, none⟩) n n) (by unfold sv; rw [List.getElem?_map, hg0]; rfl)
      obtain ⟨T, hT⟩ := t.blk
      rw [cell_of_row _ _ _ _ _ _ hT] at h0
      match hk : off + 0 with
      | 0 => rw [hk] at h0; simp at h0
      | 1 => rw [hk] at h0; simp at h0
      | m + 2 => rw [hk] at h0; simp at h0
    rw [World.cell?_of_block (w := wx.setCell ⟨w.heap.size, 0, none⟩ u) (Below.heap_setCell _ _ _ b (by simpa using hbw)), World.cell?_of_block (w := wx) (Below.heap_setCell _ _ _ b (by simpa using hbw))]
    exact hc k q hq
  · have hgw : g ≠ w.heap.size := fun q1 => by
      subst q1
      have h0 := (h3 i _ hg).2 0 hn
      obtain ⟨T, hT⟩ := t.blk
      rw [cell_of_row _ _ _ _ _ _ hT] at h0
      simp at h0
    rw [World.cell?_of_block (w := wx.setCell ⟨w.heap.size, 0, none⟩ u) (Below.heap_setCell _ _ _ g (by simpa using hgw)), World.cell?_of_block (w := wx) (Below.heap_setCell _ _ _ g (by simpa using hgw))]
    exact (h3 i g hg).2 j hj
/-- what the reference's New hands back -/
def RNewRes (ns : List ByteArray) (ps : List (Int × Int)) (w : World) (e : Ending) (w' : World) : Prop :=
  Below w.heap.size w w' ∧ ((Kl.newC ns ps ≠ 0 ∧ e = .returned (.tuple #[rlV none 0 0 none 0, .int .i64 (Kl.newC ns ps)])) ∨ (Kl.newC ns ps = 0 ∧ ∃ An cn Al cl, e = .returned (.tuple #[rlV An ns.length cn Al cl, .int .i64 0]) ∧ Strs w' w'.heap.size An ns ∧ LeM w' w'.heap.size Al ns.length (Kl.le ns.length ps)))

set_option maxRecDepth 100000 in
set_option maxHeartbeats 8000000 in
theorem rnew_any (A : Option Addr) (c : Nat) (ns : List ByteArray) (B : Option Addr) (cb : Nat) (ps : List (Int × Int)) (w : World) (h : Strs w w.heap.size A ns) (hp : Prs w w.heap.size B ps) (hls : ns.length ≤ 1000) (hl : ps.length ≤ 1000000) :
    Calls Try.prog 15 #[.slice A ns.length c, .slice B ps.length cb] w (RNewRes ns ps w) := by
  have hbad : ∀ (code : Int) (wr : World), Kl.newC ns ps = code → code ≠ 0 → Below w.heap.size w wr → RNewRes ns ps w (.returned (.tuple #[rlV none 0 0 none 0, .int .i64 code])) wr := fun code wr h1 h2 h3 =>
    ⟨h3, .inl ⟨by rw [h1]; exact h2, by rw [h1]⟩⟩
  have HBAD := Lib.hid hbad
  clear hbad
  have K0 : RnInv w (w.alloc (.cells #[.slice none 0 0, .slice none 0 0] 28)) := ⟨Two.new_ _ _ _ _, al1 _ _⟩
  by_cases h0 : ns.length = 0 ∨ 12 < ns.length
  · have hR := Lib.hid (show Kl.newC ns ps = 4 by unfold Kl.newC; rw [if_pos h0])
    have h0' : (decide ((ns.length : Int) < 1) || decide (12 < (ns.length : Int))) = true := by simp; omega
    by_cases h1 : (ns.length : Int) < 1
    · clear h0 h0'
      go_enter Try.func15, Try.ntmps15
      go_wp2_with fail
      have d0 := K0.t.c0
      have d1 := K0.t.c1
      refine bodyPost_ret (v := .tuple #[rlV none 0 0 none 0, .int .i64 4]) (by simp [results, Try.results15, go_sem, rlV]) rfl ?_
      exact HBAD.out 4 _ hR.out (by decide) K0.bel
    · have h2 : (12 : Int) < (ns.length : Int) := by omega
      clear h0 h0'
      go_enter Try.func15, Try.ntmps15
      go_wp2_with fail
      have d0 := K0.t.c0
      have d1 := K0.t.c1
      refine bodyPost_ret (v := .tuple #[rlV none 0 0 none 0, .int .i64 4]) (by simp [results, Try.results15, go_sem, rlV]) rfl ?_
      exact HBAD.out 4 _ hR.out (by decide) K0.bel
  have hlen := Lib.hid h0
  have h0' : ¬ (ns.length : Int) < 1 := by omega
  have h12' : ¬ (12 : Int) < (ns.length : Int) := by omega
  have hn12 : ns.length ≤ 12 := by omega
  have hn0 : 0 < ns.length := by omega
  clear h0
  go_enter Try.func15, Try.ntmps15
  go_wp2_with fail
  go_loopw [7, 8] (fun iv _ wr => ∃ k : Nat, k ≤ ns.length ∧ iv = .int .i64 k ∧ Hid (Kl.nmC (nmAt ns) k = 0) ∧ RnInv w wr) (fun iv _ _ => ns.length - (intOf iv).toNat)
  case atStart => exact ⟨0, Nat.zero_le _, rfl, Lib.hid rfl, K0⟩
  case round =>
    clear K0
    obtain ⟨k, hk, rfl, hz, K⟩ := hrel
    by_cases hlt : k < ns.length
    · obtain ⟨b, off, s, rfl, hbb, hc, hs⟩ := (h.below K.bel).at_ hlt
      have hltI : (k : Int) < (ns.length : Int) := by omega
      cases hn : nameB s with
      | false =>
        have hcode := (Kl.nmC_stay (n := ns.length) (Nat.succ_le_of_lt hlt) (by rw [Kl.nmC_name hz.out (by rw [← hs.out]; exact hn)]; decide)).trans (Kl.nmC_name hz.out (by rw [← hs.out]; exact hn))
        have hR := Lib.hid (show Kl.newC ns ps = 7 by unfold Kl.newC; rw [if_neg hlen.out, hcode]; rfl)
        have HN := Lib.hid hn
        clear hn hcode
        go_wp2_with fail
        refine (risName_any s _).mono ?_
        rintro e w' ⟨rfl, rfl⟩
        rw [HN.out]
        have d0 := K.t.c0
        have d1 := K.t.c1
        have f0 := K.t.fr 0
        have f1 := K.t.fr 1
        go_wp2_with fail
        obtain ⟨r0, r1⟩ := two_set wr (.slice none 0 0) (.slice none 0 0) d0 d1
        refine bodyPost_ret (v := .tuple #[rlV none 0 0 none 0, .int .i64 7]) (by simp [results, Try.results15, go_sem, r0, r1, rlV]) rfl ?_
        exact HBAD.out 7 _ hR.out (by decide) (put2 K.bel _ _)
      | true =>
        have HN := Lib.hid hn
        clear hn
        go_wp2_with fail
        refine (risName_any s _).mono ?_
        rintro e w' ⟨rfl, rfl⟩
        rw [HN.out]
        go_wp2_with fail
        go_loopw [8] (fun jv wx => ∃ j q : Nat, j ≤ k ∧ jv = .int .i64 j ∧ wx = wr.drewN q ∧ Hid (∀ i, i < j → nmAt ns i ≠ s)) (fun jv _ => k - (intOf jv).toNat)
        case atStart => exact ⟨0, 0, Nat.zero_le _, rfl, rfl, Lib.hid fun i hi => by omega⟩
        case round =>
          obtain ⟨j, q, hj, rfl, rfl, hno⟩ := hrel
          by_cases hjk : j < k
          · obtain ⟨b2, off2, s2, he, hbb2, hc2, hs2⟩ := (h.below K.bel).at_ (k := j) (by omega)
            injection he with he
            injection he with e1 e2
            subst e1 e2
            have hjI : (j : Int) < (k : Int) := by omega
            have hjI2 : (j : Int) < (ns.length : Int) := by omega
            have hz1 := hz
            by_cases hss : s2 = s
            · have q1 : (s2.toList == s.toList) = true := by rw [hss, beq_self_eq_true]
              have q2 : decide (s2.toList = s.toList) = true := by rw [hss]; simp
              have hdup : Kl.dupB (nmAt ns) k = true := by
                unfold Kl.dupB
                exact List.any_eq_true.2 ⟨j, List.mem_range.2 hjk, decide_eq_true (by rw [← hs2.out, ← hs.out]; exact hss)⟩
              have hcode := (Kl.nmC_stay (n := ns.length) (Nat.succ_le_of_lt hlt) (by rw [Kl.nmC_dup hz.out (by rw [← hs.out]; exact HN.out) hdup]; decide)).trans (Kl.nmC_dup hz.out (by rw [← hs.out]; exact HN.out) hdup)
              have hR := Lib.hid (show Kl.newC ns ps = 8 by unfold Kl.newC; rw [if_neg hlen.out, hcode]; rfl)
              have HSS := Lib.hid hss
              clear hdup hcode hss
              go_wp2_with fail
              go_quiet (fail)
              have K3 : RnInv w (wr.drewN (q + nq)) := K.below (bDrewN wr (q + nq))
              have d0 := K3.t.c0
              have d1 := K3.t.c1
              have g0 := K.t.c0
              have g1 := K.t.c1
              have g2 := K.t.fr 0
              have g3 := K.t.fr 1
              go_wp2_with fail
              obtain ⟨r0, r1⟩ := two_set (wr.drewN (q + nq)) (.slice none 0 0) (.slice none 0 0) d0 d1
              refine bodyPost_ret (v := .tuple #[rlV none 0 0 none 0, .int .i64 8]) (by simp [results, Try.results15, go_sem, r0, r1, rlV]) rfl ?_
              exact HBAD.out 8 _ hR.out (by decide) (put2 K3.bel _ _)
            · have q0 := list_ne hss
              have q1 : (s2.toList == s.toList) = false := by simpa using q0
              have q2 : decide (s2.toList = s.toList) = false := by simpa using q0
              have HSS := Lib.hid hss
              clear hss q0
              go_wp2_with fail
              go_quiet (fail)
              go_wp2_with fail
              go_roundw
              case rel => exact ⟨j + 1, _, by omega, by go_num, rfl, Lib.hid fun i hi => by
                by_cases e : i = j
                · rw [e, ← hs2.out]; exact HSS.out
                · exact hno.out i (by omega)⟩
              case measure => simp [intOf]; omega
          · obtain rfl : j = k := by omega
            have hdup : Kl.dupB (nmAt ns) j = false := by
              unfold Kl.dupB
              rw [List.any_eq_false]
              intro i hi
              rw [decide_eq_true_iff]
              rw [← hs.out]
              exact hno.out i (List.mem_range.1 hi)
            have hR := Lib.hid (Kl.nmC_ok hz.out (by rw [← hs.out]; exact HN.out) hdup)
            clear hdup
            go_wp2_with fail
            go_roundw
            case rel => exact ⟨j + 1, by omega, by go_num, hR, K.below (bDrewN wr q)⟩
            case measure => simp [intOf]; omega
    · obtain rfl : k = ns.length := by omega
      go_wp2_with fail
      go_loopw [9, 10] (fun iv _ wr => ∃ q : Nat, q ≤ ps.length ∧ iv = .int .i64 q ∧ Hid (∀ j, j < q → lvB (prAt ps j).1 ns.length = true ∧ lvB (prAt ps j).2 ns.length = true) ∧ RnInv w wr) (fun iv _ _ => ps.length - (intOf iv).toNat)
      case atStart => exact ⟨0, Nat.zero_le _, rfl, Lib.hid fun j h => by omega, K⟩
      case round =>
        clear K
        obtain ⟨q, hq, rfl, hin, K⟩ := hrel
        by_cases hlq : q < ps.length
        · obtain ⟨b, off, x, y, rfl, hb, hcx, hcy, hxy⟩ := (hp.below K.bel).at_ hlq
          have hlqI : (q : Int) < (ps.length : Int) := by omega
          have hbd : Hid ((lvB x ns.length && lvB y ns.length) = false → Kl.newC ns ps = 3) := Lib.hid fun hh => by
            have : inP ns.length ps = false := by
              unfold inP
              rw [List.all_eq_false]
              refine ⟨prAt ps q, by unfold prAt; rw [List.getD_eq_getElem?_getD, List.getElem?_eq_getElem hlq]; exact List.getElem_mem hlq, ?_⟩
              rw [← hxy.out.1, ← hxy.out.2, hh]; decide
            unfold Kl.newC
            rw [if_neg hlen.out, if_neg (by rw [hz.out]; decide), this]; rfl
          have hnext : Hid ((lvB x ns.length && lvB y ns.length) = true → ∀ j, j < q + 1 → lvB (prAt ps j).1 ns.length = true ∧ lvB (prAt ps j).2 ns.length = true) := Lib.hid fun hh j hj => by
            by_cases e : j = q
            · subst e; rw [← hxy.out.1, ← hxy.out.2]; rwa [Bool.and_eq_true] at hh
            · exact hin.out j (by omega)
          have hx1 : Hid (x < 0 → lvB x ns.length = false) := Lib.hid fun e => by unfold lvB; rw [decide_eq_false (by omega : ¬ 0 ≤ x)]; rfl
          have hx2 : Hid ((ns.length : Int) ≤ x → lvB x ns.length = false) := Lib.hid fun e => by unfold lvB; rw [decide_eq_false (by omega : ¬ x < (ns.length : Int))]; simp
          have hy1 : Hid (y < 0 → lvB y ns.length = false) := Lib.hid fun e => by unfold lvB; rw [decide_eq_false (by omega : ¬ 0 ≤ y)]; rfl
          have hy2 : Hid ((ns.length : Int) ≤ y → lvB y ns.length = false) := Lib.hid fun e => by unfold lvB; rw [decide_eq_false (by omega : ¬ y < (ns.length : Int))]; simp
          have hxt : Hid (0 ≤ x → x < (ns.length : Int) → lvB x ns.length = true) := Lib.hid fun e1 e2 => by unfold lvB; rw [decide_eq_true e1, decide_eq_true e2]; rfl
          have hyt : Hid (0 ≤ y → y < (ns.length : Int) → lvB y ns.length = true) := Lib.hid fun e1 e2 => by unfold lvB; rw [decide_eq_true e1, decide_eq_true e2]; rfl
          have d0 := K.t.c0
          have d1 := K.t.c1
          have f0 := K.t.fr 0
          have f1 := K.t.fr 1
          go_wp2_with fail
          go_loop [10] (fun jv => (jv = .int .i64 0) ∨ (jv = .int .i64 1 ∧ Hid (lvB x ns.length = true)) ∨ (jv = .int .i64 2 ∧ Hid (lvB x ns.length = true ∧ lvB y ns.length = true))) (fun jv => 2 - (intOf jv).toNat)
          case atStart => exact .inl rfl
          case round =>
            rcases hrel with rfl | ⟨rfl, hx⟩ | ⟨rfl, hx, hy⟩
            · by_cases q1 : x < 0
              · have hR := Lib.hid (hbd.out (by rw [hx1.out q1]; rfl))
                go_wp2_with fail
                obtain ⟨r0, r1⟩ := two_set wr (.slice none 0 0) (.slice none 0 0) d0 d1
                refine bodyPost_ret (v := .tuple #[rlV none 0 0 none 0, .int .i64 3]) (by simp [results, Try.results15, go_sem, r0, r1, rlV]) rfl ?_
                exact HBAD.out 3 _ hR.out (by decide) (put2 K.bel _ _)
              · by_cases q2 : (ns.length : Int) ≤ x
                · have hR := Lib.hid (hbd.out (by rw [hx2.out q2]; rfl))
                  go_wp2_with fail
                  obtain ⟨r0, r1⟩ := two_set wr (.slice none 0 0) (.slice none 0 0) d0 d1
                  refine bodyPost_ret (v := .tuple #[rlV none 0 0 none 0, .int .i64 3]) (by simp [results, Try.results15, go_sem, r0, r1, rlV]) rfl ?_
                  exact HBAD.out 3 _ hR.out (by decide) (put2 K.bel _ _)
                · have hR := Lib.hid (hxt.out (by omega) (by omega))
                  go_wp2_with fail
                  go_round
                  case rel => exact .inr (.inl ⟨rfl, hR⟩)
                  case measure => simp [intOf]
            · by_cases q1 : y < 0
              · have hR := Lib.hid (hbd.out (by rw [hy1.out q1]; simp))
                go_wp2_with fail
                obtain ⟨r0, r1⟩ := two_set wr (.slice none 0 0) (.slice none 0 0) d0 d1
                refine bodyPost_ret (v := .tuple #[rlV none 0 0 none 0, .int .i64 3]) (by simp [results, Try.results15, go_sem, r0, r1, rlV]) rfl ?_
                exact HBAD.out 3 _ hR.out (by decide) (put2 K.bel _ _)
              · by_cases q2 : (ns.length : Int) ≤ y
                · have hR := Lib.hid (hbd.out (by rw [hy2.out q2]; simp))
                  go_wp2_with fail
                  obtain ⟨r0, r1⟩ := two_set wr (.slice none 0 0) (.slice none 0 0) d0 d1
                  refine bodyPost_ret (v := .tuple #[rlV none 0 0 none 0, .int .i64 3]) (by simp [results, Try.results15, go_sem, r0, r1, rlV]) rfl ?_
                  exact HBAD.out 3 _ hR.out (by decide) (put2 K.bel _ _)
                · have hR := Lib.hid (And.intro hx.out (hyt.out (by omega) (by omega)))
                  go_wp2_with fail
                  go_round
                  case rel => exact .inr (.inr ⟨rfl, hR⟩)
                  case measure => simp [intOf]
            · have hR := Lib.hid (hnext.out (by rw [hx, hy]; rfl))
              go_wp2_with fail
              go_roundw
              case rel => exact ⟨q + 1, by omega, by go_num, hR, K⟩
              case measure => simp [intOf]; omega
        · obtain rfl : q = ps.length := by omega
          have hinP : Hid (inP ns.length ps = true) := Lib.hid (by
            unfold inP
            rw [List.all_eq_true]
            intro p hp
            obtain ⟨j, hj, rfl⟩ := List.getElem_of_mem hp
            have := hin.out j hj
            unfold prAt at this
            rw [List.getD_eq_getElem?_getD, List.getElem?_eq_getElem hj] at this
            rw [Bool.and_eq_true]; exact this)
          have hNC : Hid (Kl.newC ns ps = Kl.ckC (Kl.le ns.length ps) ns.length) := Lib.hid (by
            unfold Kl.newC
            rw [if_neg hlen.out, if_neg (by rw [hz.out]; decide), if_pos hinP.out])
          obtain ⟨i0, hi, hz0, hz1, hz2⟩ := info_parts infoStr
          obtain ⟨bn, on, hA, hbn, hcells⟩ := (h.below K.bel).row.cells (by simpa using hn0)
          subst hA
          clear hin
          have hown : (wr.alloc (.cells #[] 9)).ownsRow wr.heap.size 9 1 (.slice (some ⟨wr.heap.size, 0, none⟩) 0 0) 0 [] := World.ownsRow_made (e := 9) (size := 1) (base := wr.heap.size) wr #[] 0 (Nat.le_refl _) (by unfold maxLen; omega) rfl
          have hbn2 : bn < wr.heap.size := Nat.lt_of_lt_of_le hbn K.bel.size
          have HC := Lib.hid hcells
          have hlm := Lib.hid (show (ns.map Value.string).length = ns.length * 1 by simp)
          clear hcells
          go_wp2_with (at_builtin; refine wpList_append_own _ rfl _ _ 22 rfl wr.heap.size 9 i0 (.string ⟨#[]⟩) 1 16 Try.underlying22 hi hz0 hz1 hz2 rfl (by decide) _ _ _ rfl hown ⟨bn, on, none⟩ ns.length c (ns.map Value.string) rfl hlm.out ?c1 ?c2 ?c3 ?c4 ?c5 ?_)
          case c1 =>
            intro j u hu
            rw [Go.WideShapes.add_plain, World.cell?_alloc_lt _ _ _ hbn2]
            exact HC.out j u hu
          case c2 =>
            intro u hu
            obtain ⟨x, _, rfl⟩ := List.mem_map.1 hu
            rfl
          case c3 => unfold maxLen; omega
          case c4 => simp; omega
          case c5 => simp
          intro v' w3 hown' hgrow _
          have b3 : Below wr.heap.size wr w3 := (al1 wr (.cells #[] 9)).grown hgrow (by simp) (fun k e => by simp [Value.ownBlock] at e; omega)
          have K3 := K.below b3
          replace hown' : w3.ownsRow wr.heap.size 9 1 v' ns.length (ns.map Value.string) := by simpa using hown'
          obtain ⟨An, cn, rfl⟩ := own_slice hown'
          have hSt : Strs w3 w3.heap.size An ns := ⟨Row.of_own hown'⟩
          clear hown' hgrow hown
          go_wp2_with fail
          refine (closed_ok ns.length hn12 hn0 B cb ps _ (hp.at K3.bel) hl hinP.out).mono ?_
          rintro e w4 ⟨o, cap, gs, rfl, ho, hgs, I⟩
          have hLe := I.lem hgs
          have K4 := K3.below I.bel
          have hSt4 := hSt.at I.bel
          clear I hSt K3 ho hgs
          revert hLe
          generalize some (⟨o, 0, none⟩ : Addr) = Al
          intro hLe
          have c0 := K4.t.c0
          go_wp2_with fail
          have b5 := al1 w4 (.cells #[.slice An ns.length cn, .slice Al ns.length cap] 28)
          have K5 := K4.below b5
          have hSt5 := hSt4.at b5
          have hLe5 := hLe.at b5
          have T5 : Two (w4.alloc (.cells #[.slice An ns.length cn, .slice Al ns.length cap] 28)) w4.heap.size (.slice An ns.length cn) (.slice Al ns.length cap) := Two.new_ _ _ _ _
          have hne : w4.heap.size ≠ w.heap.size := by have := K4.t.lt; omega
          clear K4 hSt4 hLe b5 c0 b3
          revert K5 hSt5 hLe5 T5 hne
          generalize w4.alloc (.cells #[.slice An ns.length cn, .slice Al ns.length cap] 28) = w5
          generalize w4.heap.size = b11
          intro K5 hSt5 hLe5 T5 hne
          obtain ⟨bk, off, g0, hAl, hbk, _, _, _⟩ := hLe5.at_ hn0
          subst hAl
          have x1 := T5.c1
          have d0 := K5.t.c0
          have d1 := K5.t.c1
          have f0 := K5.t.fr 0
          have f1 := K5.t.fr 1
          obtain ⟨L, hL⟩ : ∃ L, Hid (Kl.le ns.length ps = L) := ⟨_, Lib.hid rfl⟩
          have hpre : Hid (Kl.Pre L ns.length) := Lib.hid (by rw [← hL.out]; exact Kl.le_pre _ _)
          rw [hL.out] at hLe5 hNC
          go_loop [12, 13] (fun av _ => ∃ a : Nat, a ≤ ns.length ∧ av = .int .i64 a ∧ Hid (∀ a' b', a' < a → b' < ns.length → L a' b' = true → L b' a' = true → a' = b')) (fun av _ => ns.length - (intOf av).toNat)
          case atStart => exact ⟨0, Nat.zero_le _, rfl, Lib.hid fun a' b' h => by omega⟩
          case round =>
            obtain ⟨a, ha, rfl, hanti⟩ := hrel
            by_cases hal : a < ns.length
            · have haI : (a : Int) < (ns.length : Int) := by omega
              obtain ⟨bk2, off2, ga, he, _, hra, _, hca⟩ := hLe5.at_ hal
              injection he with he
              injection he with e1 e2
              subst e1 e2
              go_wp2_with fail
              go_loop [13] (fun bv => ∃ b : Nat, b ≤ ns.length ∧ bv = .int .i64 b ∧ Hid (∀ b', b' < b → L a b' = true → L b' a = true → a = b')) (fun bv => ns.length - (intOf bv).toNat)
              case atStart => exact ⟨0, Nat.zero_le _, rfl, Lib.hid fun b' h => by omega⟩
              case round =>
                obtain ⟨b, hb, rfl, hrow⟩ := hrel
                by_cases hbl : b < ns.length
                · have hbI : (b : Int) < (ns.length : Int) := by omega
                  obtain ⟨bk2, off2, gb, he, _, hrb, _, hcb⟩ := hLe5.at_ hbl
                  injection he with he
                  injection he with e1 e2
                  subst e1 e2
                  have hab := hca.out b hbl
                  have hba := hcb.out a hal
                  have hnext : Hid ((L a b = true → L b a = true → a = b) → ∀ b', b' < b + 1 → L a b' = true → L b' a = true → a = b') := Lib.hid fun hh b' hb' => by
                    by_cases e : b' = b
                    · rw [e]; exact hh
                    · exact hrow.out b' (by omega)
                  by_cases hEq : a = b
                  · have q1 : ((a : Int) != (b : Int)) = false := by simp; omega
                    have hR := Lib.hid (hnext.out fun _ _ => hEq)
                    have HE := Lib.hid hEq
                    clear hEq hab hba
                    go_wp2_with fail
                    go_round
                    case rel => exact ⟨b + 1, by omega, by go_num, hR⟩
                    case measure => simp [intOf]; omega
                  · have q1 : ((a : Int) != (b : Int)) = true := by simp; omega
                    cases h1 : L a b with
                    | false =>
                      have hR := Lib.hid (hnext.out fun e _ => by rw [h1] at e; cases e)
                      rw [h1] at hab
                      clear h1
                      go_wp2_with fail
                      go_round
                      case rel => exact ⟨b + 1, by omega, by go_num, hR⟩
                      case measure => simp [intOf]; omega
                    | true =>
                      cases h2 : L b a with
                      | false =>
                        have hR := Lib.hid (hnext.out fun _ e => by rw [h2] at e; cases e)
                        rw [h1] at hab
                        rw [h2] at hba
                        clear h1 h2
                        go_wp2_with fail
                        go_round
                        case rel => exact ⟨b + 1, by omega, by go_num, hR⟩
                        case measure => simp [intOf]; omega
                      | true =>
                        have hR := Lib.hid (hNC.out.trans (Kl.ckC_anti hal hbl h1 h2 hEq))
                        rw [h1] at hab
                        rw [h2] at hba
                        clear h1 h2
                        go_wp2_with fail
                        obtain ⟨r0, r1⟩ := two_set w5 (.slice none 0 0) (.slice none 0 0) d0 d1
                        refine bodyPost_ret (v := .tuple #[rlV none 0 0 none 0, .int .i64 10]) (by simp [results, Try.results15, go_sem, r0, r1, rlV]) rfl ?_
                        exact HBAD.out 10 _ hR.out (by decide) (put2 K5.bel _ _)
                · obtain rfl : b = ns.length := by omega
                  go_wp2_with fail
                  go_round
                  case rel => exact ⟨a + 1, by omega, by go_num, Lib.hid fun a' b' ha' hb' e1 e2 => by
                    by_cases e : a' = a
                    · subst e; exact hrow.out b' hb' e1 e2
                    · exact hanti.out a' b' (by omega) hb' e1 e2⟩
                  case measure => simp [intOf]; omega
            · obtain rfl : a = ns.length := by omega
              have hA : Hid (Kl.antiB L ns.length = true) := Lib.hid (Kl.antiB_iff.2 fun a' b' ha' hb' => hanti.out a' b' ha' hb')
              have P0 : RnL w w5 b11 An cn (some ⟨bk, off, none⟩) cap ns L := ⟨K5, T5, hSt5, hLe5⟩
              clear x1 d0 d1 f0 f1 K5 hSt5 hLe5 T5
              go_wp2_with fail
              go_loopw [14, 15] (fun av _ wx => ∃ a : Nat, a ≤ ns.length ∧ av = .int .i64 a ∧ Hid (∀ a' b', a' < a → b' < ns.length → (Kl.jn L ns.length a' b').isSome = true ∧ (Kl.jn (Kl.flip L) ns.length a' b').isSome = true) ∧ RnL w wx b11 An cn (some ⟨bk, off, none⟩) cap ns L) (fun av _ _ => ns.length - (intOf av).toNat)
              case atStart => exact ⟨0, Nat.zero_le _, rfl, Lib.hid fun a' b' h => by omega, P0⟩
              case round =>
                clear P0
                obtain ⟨a, ha, rfl, hall, P⟩ := hrel
                by_cases hal : a < ns.length
                · have haI : (a : Int) < (ns.length : Int) := by omega
                  go_wp2_with fail
                  go_loopw [15] (fun bv wx => ∃ b : Nat, b ≤ ns.length ∧ bv = .int .i64 b ∧ Hid (∀ b', b' < b → (Kl.jn L ns.length a b').isSome = true ∧ (Kl.jn (Kl.flip L) ns.length a b').isSome = true) ∧ RnL w wx b11 An cn (some ⟨bk, off, none⟩) cap ns L) (fun bv _ => ns.length - (intOf bv).toNat)
                  case atStart => exact ⟨0, Nat.zero_le _, rfl, Lib.hid fun b' h => by omega, P⟩
                  case round =>
                    clear P
                    obtain ⟨b, hb, rfl, hrow, P⟩ := hrel
                    by_cases hbl : b < ns.length
                    · have hbI : (b : Int) < (ns.length : Int) := by omega
                      have hj : ∀ W : World, LeM W W.heap.size (some ⟨bk, off, none⟩) ns.length L → Calls Try.prog 26 #[.agg #[.slice An ns.length cn, .slice (some ⟨bk, off, none⟩) ns.length cap], .int .i64 (a : Int), .int .i64 (b : Int)] W fun e w' => e = .returned (.int .i64 (Kl.numI (Kl.jn L ns.length a b))) ∧ Below W.heap.size W w' := fun W hW => rjoin_ok An ns.length cn _ cap hn12 L hpre.out a b hal hbl W hW
                      have hm : ∀ W : World, LeM W W.heap.size (some ⟨bk, off, none⟩) ns.length L → Calls Try.prog 27 #[.agg #[.slice An ns.length cn, .slice (some ⟨bk, off, none⟩) ns.length cap], .int .i64 (a : Int), .int .i64 (b : Int)] W fun e w' => e = .returned (.int .i64 (Kl.numI (Kl.jn (Kl.flip L) ns.length a b))) ∧ Below W.heap.size W w' := fun W hW => rmeet_ok An ns.length cn _ cap hn12 L hpre.out a b hal hbl W hW
                      have HJ := Lib.hid hj
                      have HM := Lib.hid hm
                      have hfail : Hid (((Kl.jn L ns.length a b).isSome && (Kl.jn (Kl.flip L) ns.length a b).isSome) = false → Kl.newC ns ps = 11) := Lib.hid fun hh => hNC.out.trans (Kl.ckC_all hA.out hal hbl hh)
                      have hnext : Hid (((Kl.jn L ns.length a b).isSome && (Kl.jn (Kl.flip L) ns.length a b).isSome) = true → ∀ b', b' < b + 1 → (Kl.jn L ns.length a b').isSome = true ∧ (Kl.jn (Kl.flip L) ns.length a b').isSome = true) := Lib.hid fun hh b' hb' => by
                        by_cases e : b' = b
                        · subst e; rw [Bool.and_eq_true] at hh; exact hh
                        · exact hrow.out b' (by omega)
                      clear hj hm
                      revert HJ HM hfail hnext
                      generalize Kl.jn L ns.length a b = o1
                      generalize Kl.jn (Kl.flip L) ns.length a b = o2
                      intro HJ HM hfail hnext
                      have x0 := P.T.c0
                      have x1 := P.T.c1
                      go_wp2_with fail
                      refine (HJ.out _ P.E).mono ?_
                      rintro e w7 ⟨rfl, b7⟩
                      have P7 := P.below b7
                      clear x0 x1 P b7
                      cases o1 with
                      | none =>
                        have hR := Lib.hid (hfail.out rfl)
                        have n1 : Kl.numI none = -1 := rfl
                        rw [n1]
                        clear n1
                        have d0 := P7.K.t.c0
                        have d1 := P7.K.t.c1
                        have f0 := P7.K.t.fr 0
                        have f1 := P7.K.t.fr 1
                        go_wp2_with fail
                        obtain ⟨r0, r1⟩ := two_set w7 (.slice none 0 0) (.slice none 0 0) d0 d1
                        refine bodyPost_ret (v := .tuple #[rlV none 0 0 none 0, .int .i64 11]) (by simp [results, Try.results15, go_sem, r0, r1, rlV]) rfl ?_
                        exact HBAD.out 11 _ hR.out (by decide) (put2 P7.K.bel _ _)
                      | some j1 =>
                        have n1 : Kl.numI (some j1) = (j1 : Int) := rfl
                        rw [n1]
                        clear n1
                        have q1 : ¬ (j1 : Int) < 0 := by omega
                        have x0 := P7.T.c0
                        have x1 := P7.T.c1
                        go_wp2_with fail
                        refine (HM.out _ P7.E).mono ?_
                        rintro e w8 ⟨rfl, b8⟩
                        have P8 := P7.below b8
                        clear x0 x1 P7 b8
                        cases o2 with
                        | none =>
                          have hR := Lib.hid (hfail.out rfl)
                          have n1 : Kl.numI none = -1 := rfl
                          rw [n1]
                          clear n1
                          have d0 := P8.K.t.c0
                          have d1 := P8.K.t.c1
                          have f0 := P8.K.t.fr 0
                          have f1 := P8.K.t.fr 1
                          go_wp2_with fail
                          obtain ⟨r0, r1⟩ := two_set w8 (.slice none 0 0) (.slice none 0 0) d0 d1
                          refine bodyPost_ret (v := .tuple #[rlV none 0 0 none 0, .int .i64 11]) (by simp [results, Try.results15, go_sem, r0, r1, rlV]) rfl ?_
                          exact HBAD.out 11 _ hR.out (by decide) (put2 P8.K.bel _ _)
                        | some j2 =>
                          have hR := Lib.hid (hnext.out rfl)
                          have n1 : Kl.numI (some j2) = (j2 : Int) := rfl
                          rw [n1]
                          clear n1
                          have q2 : ¬ (j2 : Int) < 0 := by omega
                          go_wp2_with fail
                          go_roundw
                          case rel => exact ⟨b + 1, by omega, by go_num, hR, P8⟩
                          case measure => simp [intOf]; omega
                    · obtain rfl : b = ns.length := by omega
                      go_wp2_with fail
                      go_roundw
                      case rel => exact ⟨a + 1, by omega, by go_num, Lib.hid fun a' b' ha' hb' => by
                        by_cases e : a' = a
                        · subst e; exact hrow.out b' hb'
                        · exact hall.out a' b' (by omega) hb', P⟩
                      case measure => simp [intOf]; omega
                · obtain rfl : a = ns.length := by omega
                  have hR := Lib.hid (hNC.out.trans (Kl.ckC_ok hA.out (Kl.allB_iff.2 fun a' b' ha' hb' => hall.out a' b' ha' hb')))
                  have x0 := P.T.c0
                  have x1 := P.T.c1
                  have d0 := P.K.t.c0
                  have d1 := P.K.t.c1
                  have f0 := P.K.t.fr 0
                  have f1 := P.K.t.fr 1
                  go_wp2_with fail
                  obtain ⟨r0, r1⟩ := two_set wr (.slice An ns.length cn) (.slice (some ⟨bk, off, none⟩) ns.length cap) d0 d1
                  refine bodyPost_ret (v := .tuple #[rlV An ns.length cn (some ⟨bk, off, none⟩) cap, .int .i64 0]) (by simp [results, Try.results15, go_sem, r0, r1, rlV]) rfl ?_
                  refine ⟨put2 P.K.bel _ _, .inr ⟨hR.out, An, cn, some ⟨bk, off, none⟩, cap, rfl, strs_put (x := .slice none 0 0) (y := .slice none 0 0) P.S P.K.t, ?_⟩⟩
                  rw [hL.out]
                  exact lem_put P.E hn0 P.K.t
end Go.Proofs.Ytcckocaaoklibaa
