/- Walks: Branches. -/
import Derived.Test.YtcicejmahlobhaaDoorS2
namespace Go.Proofs.YtcicejmahlobhaaDoor
open Go.RowKit Bs
set_option linter.unusedVariables false

set_option maxRecDepth 100000 in
set_option maxHeartbeats 1000000 in
theorem branches_ok (A : Option Addr) (ca : Nat) (p : List Int) (n : Nat) (B : Option Addr) (cb : Nat) (ws : List Nat) (w : World) (ha : Ints w w.heap.size A p) (hb : Words w w.heap.size B ws) (hn : n ≤ 4096) (hc : scode p n ws = 0) (ht : Tabs w) :
    Calls Tryd.prog 14 #[.slice A p.length ca, setV n B ws.length cb] w (BrRes (brZ p ws) 0 w) := by
  obtain ⟨hvp, hvs, hs⟩ := scode_zero hc
  have hpn : p.length = n := by omega
  have hok := ((Kb.validB_iff hb.lt).1 hvs).2.2
  rw [Int.toNat_natCast] at hok
  have hl : ws.length ≤ 64 := by rw [hok.len]; unfold Kb.nw; omega
  have b0 : Below w.heap.size w (w.alloc (.cells #[.int .i64 (n : Int), .slice B ws.length cb] 24)) := (Below.refl _ _).alloc (Nat.le_refl _) _
  obtain ⟨m, hm⟩ : ∃ m, Hid (Kp.cnt0 p = m) := ⟨_, Lib.hid rfl⟩
  have hmle : m ≤ 4096 := by have := Kp.cnt0_le p; rw [hm.out] at this; omega
  have hcls : Hid (∀ i, i < n → 0 ≤ Kp.lab p i ∧ Kp.lab p i < (m : Int)) := Lib.hid fun i hi => by
    have := Kp.valid_lt hvp (i := i) (by omega)
    rw [← hm.out]; unfold Kp.cnt0; rw [if_pos hvp]; exact this
  have hmk := makeBools m (by omega)
  have hR : Hid (Ks.brM (Ks.metL (Kp.lab p) (Kb.membersTo (Kb.bitAt ws) n)) m = brZ p ws) := Lib.hid (by
    unfold brZ; rw [hm.out, hpn]; exact Ks.brM_congr fun c _ => Ks.metL_members _ _ _ _)
  have HC := Lib.hid hc
  have HP := Lib.hid hpn
  have hpl : p.length ≤ 4096 := by omega
  clear hc hvp hvs hs hpn
  unfold setV
  go_enter Tryd.func14, Tryd.ntmps14
  go_wp2_with fail
  refine (check_any A ca p n B cb ws _ ((ha.below b0).more b0.size) ((hb.below b0).more b0.size) (by omega) (by omega)).mono ?_
  rintro e w1 ⟨rfl, hb1⟩
  rw [HC.out]
  have t1 : Two w1 w.heap.size (.int .i64 (n : Int)) (.slice B ws.length cb) := (Two.new_ _ _ _ _).below hb1 (by simp)
  have b1 := b0.trans (hb1.mono b0.size)
  clear b0 hb1
  go_wp2_with fail
  refine (bcount_any A ca p _ ((ha.below b1).more b1.size) (by omega)).mono ?_
  rintro e w2 ⟨rfl, hb2⟩
  rw [hm.out]
  have t2 := t1.below hb2 t1.lt
  have b2 := b1.trans (hb2.mono b1.size)
  clear b1 hb2 t1
  have c20 := t2.c0
  have c21 := t2.c1
  have c2l := t2.lt
  go_wp2_with fail
  have K0 : BrInv w (w2.alloc (.cells (bcells (fun _ => false) m).toArray 4)) w2.heap.size (.int .i64 (n : Int)) (.slice B ws.length cb) (fun _ => false) m :=
    ⟨t2.alloc _, BBlk.new_ _ _, t2.lt, b2.alloc b2.size _⟩
  clear hmk c20 c21 c2l t2
  have hgB : w2.heap.size < (w2.alloc (.cells (bcells (fun _ => false) m).toArray 4)).heap.size := by simp
  revert K0 hgB
  generalize w2.heap.size = g
  generalize w2.alloc (.cells (bcells (fun _ => false) m).toArray 4) = w3
  intro K0 hgB
  refine (members_ok n B cb ws _ ((hb.below K0.bel).more K0.bel.size) hok hn (ht.below K0.bel)).mono ?_
  rintro e w4 ⟨A', c', rfl, hown, hb4⟩
  have hI : Ints w4 w4.heap.size A' ((Kb.membersTo (Kb.bitAt ws) n).map fun (x : Nat) => (x : Int)) := by
    refine ⟨?_, fun x hx => ?_⟩
    · have := Row.of_own hown
      rw [List.map_map]
      exact this
    · obtain ⟨y, hy, rfl⟩ := List.mem_map.1 hx
      have := (Ks.membersTo_mem.1 hy).1
      omega
  have K1 : BrInv w w4 g (.int .i64 (n : Int)) (.slice B ws.length cb) (fun _ => false) m :=
    ⟨K0.t.below hb4 K0.t.lt, K0.row.below hb4 K0.row.lt, K0.hg, K0.bel.trans (hb4.mono K0.bel.size)⟩
  have hgl : g < w4.heap.size := Nat.lt_of_lt_of_le hgB hb4.size
  have hLb : Hid (∀ x ∈ Kb.membersTo (Kb.bitAt ws) n, x < n) := Lib.hid fun x hx => (Ks.membersTo_mem.1 hx).1
  clear hown hb4 K0 hgB b2
  have hLl := Kb.membersTo_le (Kb.bitAt ws) n
  revert hI hR hLb hLl
  generalize Kb.membersTo (Kb.bitAt ws) n = L
  intro hR hI hLb hLl
  have HI := Lib.hid hI
  clear hI
  go_wp2_with fail
  go_loopw [8, 23] (fun br kv wr => ∃ k r : Nat, k ≤ L.length ∧ kv = .int .i64 k ∧ br = .int .i64 r ∧ r ≤ k ∧ Hid (r = Ks.brM (Ks.metL (Kp.lab p) (L.take k)) m) ∧ BrInv w wr g (.int .i64 (n : Int)) (.slice B ws.length cb) (Ks.metL (Kp.lab p) (L.take k)) m ∧ Hid (∀ q : Addr, q.block ≠ g → q.block < w4.heap.size → wr.cell? q = w4.cell? q)) (fun _ kv _ => L.length - (intOf kv).toNat)
  case atStart =>
    refine ⟨0, 0, Nat.zero_le _, rfl, rfl, Nat.le_refl _, Lib.hid ?_, ?_, Lib.hid fun q _ _ => rfl⟩
    · rw [List.take_zero]; exact (Ks.brM_zero m).symm
    · rw [List.take_zero]; exact K1
  case round =>
    obtain ⟨k, r, hk, rfl, rfl, hrk, hr, K, hkeep⟩ := hrel
    by_cases hlt : k < L.length
    · obtain ⟨bI, oI, x, rfl, hbI, hcI, hxI⟩ := HI.out.at_ (k := k) (by rw [List.length_map]; exact hlt)
      obtain ⟨i, hi⟩ : ∃ i, Hid (L.getD k 0 = i) := ⟨_, Lib.hid rfl⟩
      have hxi : x = (i : Int) := by
        rw [hxI.out.1, ← hi.out, List.getD_eq_getElem?_getD, List.getElem?_map, List.getElem?_eq_getElem hlt, List.getD_eq_getElem?_getD, List.getElem?_eq_getElem hlt]; rfl
      subst hxi
      have hin : i < n := by
        refine hLb.out i ?_
        rw [← hi.out, List.getD_eq_getElem?_getD, List.getElem?_eq_getElem hlt]; exact List.getElem_mem hlt
      have hbg : bI ≠ g := fun e => by
        subst e
        have h0 := K1.row
        obtain ⟨b', o', e', hb', hc'⟩ := HI.out.row.cells (by rw [List.length_map, List.length_map]; omega)
        injection e' with e'
        injection e' with e1 e2
        subst e1 e2
        have hq := hcI
        rw [cell_of_row w4 _ _ _ _ _ h0] at hq
        simp [bcells] at hq
      have hcI2 := (hkeep.out ⟨bI, oI + k, none⟩ hbg hbI).trans hcI
      obtain ⟨bp, op, z, rfl, hbp, hcp, hz⟩ := (ha.below K.bel).at_ (k := i) (by have := HP.out; omega)
      have hzr := hcls.out i hin
      have hzl : Hid (z = Kp.lab p i) := Lib.hid hz.out.1
      rw [← hzl.out] at hzr
      obtain ⟨c, rfl⟩ := Int.eq_ofNat_of_zero_le hzr.1
      have hcm : c < m := by omega
      have hcg := K.row.cell (bcells_at _ hcm)
      have hfg := K.row.frozen c
      have hpi : (i : Int) < (p.length : Int) := by have := HP.out; omega
      have htk : L.take (k + 1) = L.take k ++ [i] := by
        rw [List.take_succ_eq_append_getElem hlt, ← hi.out, List.getD_eq_getElem?_getD, List.getElem?_eq_getElem hlt]; rfl
      have HT := Lib.hid htk
      clear htk
      cases hmet : Ks.metL (Kp.lab p) (L.take k) c with
      | true =>
        rw [hmet] at hcg
        have HM := Lib.hid hmet
        clear hmet
        go_wp2_with fail
        go_roundw
        case rel =>
          refine ⟨k + 1, r, by omega, by go_num, rfl, by omega, Lib.hid ?_, ?_, hkeep⟩
          · rw [HT.out, Ks.met_old hzl.out.symm HM.out]; exact hr.out
          · have e : bcells (Ks.metL (Kp.lab p) (L.take (k + 1))) m = bcells (Ks.metL (Kp.lab p) (L.take k)) m := bcells_congr fun d _ => by
              rw [HT.out, Ks.metL_snoc, ← hzl.out]
              by_cases hd : d = c
              · rw [hd, HM.out]; rfl
              · rw [show (((c : Nat) : Int) == (d : Int)) = false by simp; omega, Bool.or_false]
            exact ⟨K.t, by rw [e]; exact K.row, K.hg, K.bel⟩
        case measure => simp [intOf]; omega
      | false =>
        rw [hmet] at hcg
        have HM := Lib.hid hmet
        clear hmet
        go_wp2_with fail
        go_roundw
        case rel =>
          refine ⟨k + 1, r + 1, by omega, by go_num, by go_num, by omega, Lib.hid ?_, ?_, Lib.hid fun q h1 h2 => ?_⟩
          · rw [HT.out, Ks.met_new hzl.out.symm hcm HM.out, ← hr.out]
          · have e : bcells (Ks.metL (Kp.lab p) (L.take (k + 1))) m = (bcells (Ks.metL (Kp.lab p) (L.take k)) m).set c (.bool true) := by
              rw [bcells_set]
              refine bcells_congr fun d _ => ?_
              rw [HT.out, Ks.metL_snoc, ← hzl.out]
              by_cases hd : d = c
              · rw [hd, if_pos rfl]; simp
              · rw [if_neg hd, show (((c : Nat) : Int) == (d : Int)) = false by simp; omega, Bool.or_false]
            refine ⟨K.t.far (by have := K.hg; simp; omega) _, ?_, K.hg, K.bel.setCell (by have := K.hg; simp; omega) _⟩
            rw [e]; exact K.row.set_ _ _
          · exact (World.cell?_of_block (w := wr) (Below.heap_setCell wr ⟨g, c, none⟩ _ q.block (by simpa using h1))).trans (hkeep.out q h1 h2)
        case measure => simp [intOf]; omega
    · obtain rfl : k = L.length := by omega
      rw [List.take_length] at hr
      go_wp2_with fail
      go_ret2
      exact ⟨by rw [← hR.out, ← hr.out]; rfl, K.bel⟩

end Go.Proofs.YtcicejmahlobhaaDoor
