/- Walks: the law's few and made. -/
import Derived.Test.YtcckocaaoklibaaNc
namespace Go.Proofs.Ytcckocaaoklibaa
open Go.RowKit Go.Maps
set_option linter.unusedVariables false

/-- the law's limits -/
def fewB (ns : List ByteArray) (ps : List (Int × Int)) : Bool := decide (ns.length ≤ 14) && decide (ps.length ≤ 60) && (List.range ns.length).all fun k => decide ((nmAt ns k).size ≤ 20)

set_option maxRecDepth 100000 in
set_option maxHeartbeats 1000000 in
theorem few_any (A : Option Addr) (c : Nat) (ns : List ByteArray) (B : Option Addr) (cb : Nat) (ps : List (Int × Int)) (w : World) (h : Strs w w.heap.size A ns) :
    Calls Try.prog 14 #[.slice A ns.length c, .slice B ps.length cb] w fun e w' => e = .returned (.bool (fewB ns ps)) ∧ w = w' := by
  by_cases h1 : 14 < ns.length
  · have hR : Hid (fewB ns ps = false) := Lib.hid (by unfold fewB; rw [decide_eq_false (by omega)]; rfl)
    have h1' : (14 : Int) < (ns.length : Int) := by omega
    go_enter Try.func14, Try.ntmps14
    go_wp2_with fail
    go_ret
    exact ⟨ret_bool hR.out.symm, rfl⟩
  have h1' : ¬ (14 : Int) < (ns.length : Int) := by omega
  by_cases h2 : 60 < ps.length
  · have hR : Hid (fewB ns ps = false) := Lib.hid (by unfold fewB; rw [show decide (ps.length ≤ 60) = false from decide_eq_false (by omega)]; simp)
    have h2' : (60 : Int) < (ps.length : Int) := by omega
    go_enter Try.func14, Try.ntmps14
    go_wp2_with fail
    go_ret
    exact ⟨ret_bool hR.out.symm, rfl⟩
  have h2' : ¬ (60 : Int) < (ps.length : Int) := by omega
  have hbase : Hid (decide (ns.length ≤ 14) = true ∧ decide (ps.length ≤ 60) = true) := Lib.hid ⟨decide_eq_true (by omega), decide_eq_true (by omega)⟩
  go_enter Try.func14, Try.ntmps14
  go_wp2_with fail
  go_loop [17] (fun kv => ∃ k : Nat, k ≤ ns.length ∧ kv = .int .i64 k ∧ Hid (∀ j, j < k → (nmAt ns j).size ≤ 20)) (fun kv => ns.length - (intOf kv).toNat)
  case atStart => exact ⟨0, Nat.zero_le _, rfl, Lib.hid fun j h => by omega⟩
  case round =>
    obtain ⟨k, hk, rfl, hok⟩ := hrel
    by_cases hlt : k < ns.length
    · obtain ⟨b, off, s, rfl, hbb, hc, hs⟩ := h.at_ hlt
      by_cases h3 : 20 < s.size
      · have hR : Hid (fewB ns ps = false) := Lib.hid (by
          unfold fewB
          have : ((List.range ns.length).all fun k => decide ((nmAt ns k).size ≤ 20)) = false := by
            rw [List.all_eq_false]
            exact ⟨k, List.mem_range.2 hlt, by rw [← hs.out]; simp; omega⟩
          rw [this]; simp)
        have h3' : (20 : Int) < (s.size : Int) := by omega
        go_wp2_with fail
        go_ret
        exact ⟨ret_bool hR.out.symm, rfl⟩
      · have h3' : ¬ (20 : Int) < (s.size : Int) := by omega
        have HS := Lib.hid (show s.size ≤ 20 by omega)
        go_wp2_with fail
        go_round
        case rel => exact ⟨k + 1, by omega, by go_num, Lib.hid fun j hj => by
          by_cases e : j = k
          · rw [e, ← hs.out]; exact HS.out
          · exact hok.out j (by omega)⟩
        case measure => simp [intOf]; omega
    · obtain rfl : k = ns.length := by omega
      have hR : Hid (fewB ns ps = true) := Lib.hid (by
        unfold fewB
        rw [hbase.out.1, hbase.out.2]
        simp only [Bool.true_and, List.all_eq_true, List.mem_range, decide_eq_true_eq]
        exact fun k hk => hok.out k hk)
      go_wp2_with fail
      go_ret
      exact ⟨ret_bool hR.out.symm, rfl⟩

theorem words_put {w wx : World} {A : Option Addr} {ws : List Nat} {u v : Value} (h : Words wx wx.heap.size A ws) (t : Two wx w.heap.size (.slice none 0 0) (.slice none 0 0)) : Words ((wx.setCell ⟨w.heap.size, 0, none⟩ u).setCell ⟨w.heap.size, 1, none⟩ v) ((wx.setCell ⟨w.heap.size, 0, none⟩ u).setCell ⟨w.heap.size, 1, none⟩ v).heap.size A ws := by
  refine ⟨⟨fun hn => ?_⟩, h.lt⟩
  obtain ⟨b, off, e, hb, hc⟩ := h.row.cells hn
  refine ⟨b, off, e, by simpa [World.setCell] using hb, fun k q hq => ?_⟩
  have hbw : b ≠ w.heap.size := fun q1 => by
    subst q1
    have h0 := hc 0 _ (List.getElem?_eq_getElem hn)
    obtain ⟨T, hT⟩ := t.blk
    rw [cell_of_row _ _ _ _ _ _ hT] at h0
    simp only [List.getElem_map] at h0
    match hk : off + 0 with
    | 0 => rw [hk] at h0; simp at h0
    | 1 => rw [hk] at h0; simp at h0
    | m + 2 => rw [hk] at h0; simp at h0
  rw [World.cell?_of_block (w := wx.setCell ⟨w.heap.size, 0, none⟩ u) (Below.heap_setCell _ _ _ b (by simpa using hbw)), World.cell?_of_block (w := wx) (Below.heap_setCell _ _ _ b (by simpa using hbw))]
  exact hc k q hq
theorem plat_put {w wx : World} {lb : Nat} {ns : List ByteArray} {L : Nat → Nat → Bool} {u v : Value} (h : PLat wx lb ns L) (t : Two wx w.heap.size (.slice none 0 0) (.slice none 0 0)) : PLat ((wx.setCell ⟨w.heap.size, 0, none⟩ u).setCell ⟨w.heap.size, 1, none⟩ v) lb ns L := by
  obtain ⟨An, cn, M, Aa, ca, Ab, cb, h1, h2, h3⟩ := h
  have hlb : lb ≠ w.heap.size := fun q => by
    subst q
    obtain ⟨T, hT⟩ := t.blk
    obtain ⟨T2, hT2⟩ := h1.four.blk
    rw [hT] at hT2
    simp at hT2
  have hM : M ≠ w.heap.size := fun q => by
    subst q
    obtain ⟨T, hT⟩ := t.blk
    obtain ⟨es, clock, hb, _⟩ := h3
    rw [hT] at hb
    simp at hb
  have g1 := setCell_grown wx ⟨w.heap.size, 0, none⟩ u
  have g2 := setCell_grown (wx.setCell ⟨w.heap.size, 0, none⟩ u) ⟨w.heap.size, 1, none⟩ v
  exact ⟨An, cn, M, Aa, ca, Ab, cb, ⟨(h1.four.far (by simpa using hlb) _).far (by simpa using hlb) _, words_put h1.ab t, words_put h1.be t⟩, strs_put (x := .slice none 0 0) (y := .slice none 0 0) h2 t, (h3.kept g1 (by simpa using hM)).kept g2 (by simpa using hM)⟩

/-- both lattices -/
structure Both (w : World) (lb : Nat) (An : Option Addr) (cn : Nat) (Al : Option Addr) (cl : Nat) (ns : List ByteArray) (L : Nat → Nat → Bool) : Prop where
  P : PLat w lb ns L
  S : Strs w w.heap.size An ns
  E : LeM w w.heap.size Al ns.length L
theorem Both.below {w wx : World} {lb : Nat} {An : Option Addr} {cn : Nat} {Al : Option Addr} {cl : Nat} {ns : List ByteArray} {L : Nat → Nat → Bool} (h : Both w lb An cn Al cl ns L) (hb : Below w.heap.size w wx) : Both wx lb An cn Al cl ns L := ⟨h.P.below hb, h.S.at hb, h.E.at hb⟩
/-- what made hands back -/
def MadeRes (ns : List ByteArray) (ps : List (Int × Int)) (w : World) (e : Ending) (w' : World) : Prop :=
  Below w.heap.size w w' ∧ (e = .returned (.tuple #[.pointer none, rlV none 0 0 none 0, .bool false]) ∨ (fewB ns ps = true ∧ Kl.newC ns ps = 0 ∧ ∃ lb An cn Al cl, e = .returned (.tuple #[.pointer (some ⟨lb, 0, none⟩), rlV An ns.length cn Al cl, .bool true]) ∧ Both w' lb An cn Al cl ns (Kl.le ns.length ps)))

set_option maxRecDepth 100000 in
set_option maxHeartbeats 4000000 in
theorem made_any (A : Option Addr) (c : Nat) (ns : List ByteArray) (B : Option Addr) (cb : Nat) (ps : List (Int × Int)) (w : World) (h : Strs w w.heap.size A ns) (hp : Prs w w.heap.size B ps) :
    Calls Try.prog 5 #[.slice A ns.length c, .slice B ps.length cb] w (MadeRes ns ps w) := by
  have b0 : Below w.heap.size w (w.alloc (.cells #[.slice none 0 0, .slice none 0 0] 28)) := al1 _ _
  have K0 : RnInv w (w.alloc (.cells #[.slice none 0 0, .slice none 0 0] 28)) := ⟨Two.new_ _ _ _ _, al1 _ _⟩
  cases hf : fewB ns ps with
  | false =>
    have HF := Lib.hid hf
    clear hf
    go_enter Try.func5, Try.ntmps5
    go_wp2_with fail
    refine (few_any A c ns B cb ps _ (h.at b0)).mono ?_
    rintro e w1 ⟨rfl, rfl⟩
    rw [HF.out]
    go_wp2_with fail
    refine bodyPost_ret (v := .tuple #[.pointer none, rlV none 0 0 none 0, .bool false]) (by simp [results, Try.results5, go_sem, rlV]) rfl ?_
    exact ⟨b0, .inl rfl⟩
  | true =>
    have hsz : ns.length ≤ 1000 ∧ ps.length ≤ 1000000 := by
      unfold fewB at hf
      simp only [Bool.and_eq_true, decide_eq_true_eq] at hf
      omega
    obtain ⟨hs1, hs2⟩ := hsz
    have HF := Lib.hid hf
    clear hf
    go_enter Try.func5, Try.ntmps5
    go_wp2_with fail
    refine (few_any A c ns B cb ps _ (h.at b0)).mono ?_
    rintro e w1 ⟨rfl, rfl⟩
    rw [HF.out]
    go_wp2_with fail
    refine (rnew_any A c ns B cb ps _ (h.at b0) (hp.at b0) hs1 hs2).mono ?_
    rintro e w1 ⟨hb1, ⟨hne, rfl⟩ | ⟨hz, An, cn, Al, cl, rfl, hS, hE⟩⟩
    · have K1 := K0.below hb1
      have hcb : (Kl.newC ns ps != 0) = true := by simpa using hne
      have HNE := Lib.hid hne
      have K2 := K1.below (al1 w1 (.cells #[.slice none 0 0, .slice none 0 0] 28))
      clear hne
      have d0 := K1.t.c0
      have d1 := K1.t.c1
      have f0 := K1.t.fr 0
      have f1 := K1.t.fr 1
      have dl := K1.t.lt
      unfold rlV
      go_wp2_with fail
      have T9 := (K1.t.put (.slice none 0 0) (.slice none 0 0)).alloc (.cells #[.slice none 0 0, .slice none 0 0] 28)
      have r0 := T9.c0
      have r1 := T9.c1
      refine bodyPost_ret (v := .tuple #[.pointer none, rlV none 0 0 none 0, .bool false]) (by simp [results, Try.results5, go_sem, r0, r1, rlV]) rfl ?_
      exact ⟨(put2 K1.bel (.slice none 0 0) (.slice none 0 0)).alloc (put2 K1.bel (.slice none 0 0) (.slice none 0 0)).size _, .inl rfl⟩
    · have K1 := K0.below hb1
      have HZ := Lib.hid hz
      have dl := K1.t.lt
      clear hz
      unfold rlV
      go_wp2_with fail
      have b5 := al1 w1 (.cells #[.slice An ns.length cn, .slice Al ns.length cl] 28)
      have T5 : Two (w1.alloc (.cells #[.slice An ns.length cn, .slice Al ns.length cl] 28)) w1.heap.size (.slice An ns.length cn) (.slice Al ns.length cl) := Two.new_ _ _ _ _
      have hne : w1.heap.size ≠ w.heap.size := by omega
      have K5 := K1.below b5
      have hS5 := hS.at b5
      have hE5 := hE.at b5
      refine (new_any A c ns B cb ps _ (h.at K5.bel) (hp.at K5.bel) hs1 hs2).mono ?_
      rintro e w6 ⟨b6, ⟨hz1, _⟩ | ⟨_, lb, rfl, hP⟩⟩
      · exact absurd HZ.out hz1
      have K6 := K5.below b6
      have T6 := T5.below b6 T5.lt
      have hS6 := hS5.at b6
      have hE6 := hE5.at b6
      clear K0 K1 K5 T5 hS hE hS5 hE5 b5 b6 hb1
      revert K6 T6 hS6 hE6 hP hne
      generalize w1.heap.size = b7
      intro hne hP K6 T6 hS6 hE6
      have d0 := K6.t.c0
      have d1 := K6.t.c1
      have f0 := K6.t.fr 0
      have f1 := K6.t.fr 1
      have x0 := T6.c0
      have x1 := T6.c1
      have e0 := K6.t.drew.c0
      have e1 := K6.t.drew.c1
      have g0 := K6.t.drew.fr 0
      have g1 := K6.t.drew.fr 1
      have y0 := T6.drew.c0
      have y1 := T6.drew.c1
      clear dl
      have hne2 : w.heap.size ≠ b7 := fun e => hne e.symm
      go_wp2_with fail
      go_region
      go_wp2_with fail
      have hn0 : 0 < ns.length := (Kl.newC_lat HZ.out).2.1
      have T9 := (K6.t.put (.slice An ns.length cn) (.slice Al ns.length cl)).drew
      have r0 := T9.c0
      have r1 := T9.c1
      refine bodyPost_ret (v := .tuple #[.pointer (some ⟨lb, 0, none⟩), rlV An ns.length cn Al cl, .bool true]) (by simp [results, Try.results5, go_sem, r0, r1, rlV]) rfl ?_
      have bd := bDrewN ((w6.setCell ⟨w.heap.size, 0, none⟩ (.slice An ns.length cn)).setCell ⟨w.heap.size, 1, none⟩ (.slice Al ns.length cl)) 1
      exact ⟨(put2 K6.bel (.slice An ns.length cn) (.slice Al ns.length cl)).drew, .inr ⟨HF.out, HZ.out, lb, An, cn, Al, cl, rfl, ⟨(plat_put hP K6.t).below bd, (strs_put (x := .slice none 0 0) (y := .slice none 0 0) hS6 K6.t).at bd, (lem_put hE6 hn0 K6.t).at bd⟩⟩⟩
end Go.Proofs.Ytcckocaaoklibaa
