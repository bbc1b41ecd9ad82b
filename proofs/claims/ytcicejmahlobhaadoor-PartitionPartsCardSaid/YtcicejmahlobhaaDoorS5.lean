/- Walks: the reference's Part. -/
import Derived.Test.YtcicejmahlobhaaDoorS4
namespace Go.Proofs.YtcicejmahlobhaaDoor
open Go.RowKit Bs
set_option linter.unusedVariables false

set_option maxRecDepth 100000 in
set_option maxHeartbeats 1000000 in
theorem rpart_bad (A : Option Addr) (ca : Nat) (p : List Int) (size : Int) (B : Option Addr) (cb : Nat) (ws : List Nat) (c : Int) (w : World) (ha : Ints w w.heap.size A p) (hb : Words w w.heap.size B ws) (hlp : p.length ≤ 1000000) (hl : ws.length ≤ 140737488351232) (hc : scode p size ws ≠ 0) :
    Calls Tryd.prog 17 #[.slice A p.length ca, setV size B ws.length cb, .int .i64 c] w (ErrRes (scode p size ws) w) := by
  have hC : (scode p size ws != 0) = true := by simpa using hc
  have HC := Lib.hid hc
  clear hc
  unfold setV
  go_enter Tryd.func17, Tryd.ntmps17
  go_wp2_with fail
  have K0 := PtInv.new_ w (.int .i64 size) (.slice B ws.length cb) 24 24
  refine (split_any A ca p size B cb ws _ ((ha.below K0.bel).more K0.bel.size) ((hb.below K0.bel).more K0.bel.size) hlp hl).mono ?_
  rintro e w1 ⟨rfl, hb1⟩
  have K := K0.below hb1
  clear K0 hb1
  have d0 := K.r.c0
  have d1 := K.r.c1
  have f0 := K.r.fr 0
  have f1 := K.r.fr 1
  go_wp2_with fail
  obtain ⟨r0, r1⟩ := two_set w1 (.int .i64 0) (.slice none 0 0) d0 d1
  refine bodyPost_ret (v := .tuple #[setV 0 none 0 0, .int .i64 (scode p size ws)]) (by simp [results, Tryd.results17, go_sem, r0, r1, setV]) rfl ?_
  exact ⟨rfl, (K.bel.setCell (p := ⟨w.heap.size + 1, 0, none⟩) (by simp) _).setCell (p := ⟨w.heap.size + 1, 1, none⟩) (by simp) _⟩

set_option maxRecDepth 100000 in
set_option maxHeartbeats 1000000 in
theorem rpart_out (A : Option Addr) (ca : Nat) (p : List Int) (n : Nat) (B : Option Addr) (cb : Nat) (ws : List Nat) (c : Int) (w : World) (ha : Ints w w.heap.size A p) (hb : Words w w.heap.size B ws) (hlp : p.length ≤ 1000000) (hl : ws.length ≤ 140737488351232) (hc : scode p n ws = 0) (hcc : ¬ (0 ≤ c ∧ c < (Kp.cnt0 p : Int))) :
    Calls Tryd.prog 17 #[.slice A p.length ca, setV n B ws.length cb, .int .i64 c] w (ErrRes 3 w) := by
  have HC := Lib.hid hc
  obtain ⟨m, hm⟩ : ∃ m, Hid (Kp.cnt0 p = m) := ⟨_, Lib.hid rfl⟩
  rw [hm.out] at hcc
  clear hc
  unfold setV
  by_cases h0 : c < 0
  · clear hcc
    go_enter Tryd.func17, Tryd.ntmps17
    go_wp2_with fail
    have K0 := PtInv.new_ w (.int .i64 (n : Int)) (.slice B ws.length cb) 24 24
    refine (split_any A ca p n B cb ws _ ((ha.below K0.bel).more K0.bel.size) ((hb.below K0.bel).more K0.bel.size) hlp hl).mono ?_
    rintro e w1 ⟨rfl, hb1⟩
    rw [HC.out]
    have K := K0.below hb1
    clear K0 hb1
    have d0 := K.r.c0
    have d1 := K.r.c1
    have f0 := K.r.fr 0
    have f1 := K.r.fr 1
    go_wp2_with fail
    obtain ⟨r0, r1⟩ := two_set w1 (.int .i64 0) (.slice none 0 0) d0 d1
    refine bodyPost_ret (v := .tuple #[setV 0 none 0 0, .int .i64 3]) (by simp [results, Tryd.results17, go_sem, r0, r1, setV]) rfl ?_
    exact ⟨rfl, (K.bel.setCell (p := ⟨w.heap.size + 1, 0, none⟩) (by simp) _).setCell (p := ⟨w.heap.size + 1, 1, none⟩) (by simp) _⟩
  · have h1 : (m : Int) ≤ c := by omega
    clear hcc
    go_enter Tryd.func17, Tryd.ntmps17
    go_wp2_with fail
    have K0 := PtInv.new_ w (.int .i64 (n : Int)) (.slice B ws.length cb) 24 24
    refine (split_any A ca p n B cb ws _ ((ha.below K0.bel).more K0.bel.size) ((hb.below K0.bel).more K0.bel.size) hlp hl).mono ?_
    rintro e w1 ⟨rfl, hb1⟩
    rw [HC.out]
    have K := K0.below hb1
    clear K0 hb1
    go_wp2_with fail
    refine (rcount_any A ca p _ ((ha.below K.bel).more K.bel.size) hlp).mono ?_
    rintro e w2 ⟨rfl, rfl⟩
    rw [hm.out]
    have d0 := K.r.c0
    have d1 := K.r.c1
    have f0 := K.r.fr 0
    have f1 := K.r.fr 1
    go_wp2_with fail
    obtain ⟨r0, r1⟩ := two_set w1 (.int .i64 0) (.slice none 0 0) d0 d1
    refine bodyPost_ret (v := .tuple #[setV 0 none 0 0, .int .i64 3]) (by simp [results, Tryd.results17, go_sem, r0, r1, setV]) rfl ?_
    exact ⟨rfl, (K.bel.setCell (p := ⟨w.heap.size + 1, 0, none⟩) (by simp) _).setCell (p := ⟨w.heap.size + 1, 1, none⟩) (by simp) _⟩

/-- the reference's Part's world in the loop -/
structure RpInv (w wr : World) (x y : Value) (n b9 g m : Nat) (vs : List Nat) : Prop where
  K : PtInv w wr x y
  t9 : Two wr b9 (.int .i64 (n : Int)) (.slice (some ⟨g, 0, none⟩) m m)
  row : WBlk wr g vs
  h9 : w.heap.size + 1 < b9
  hg : w.heap.size + 1 < g
  ne : b9 ≠ g
theorem RpInv.below {w wr wx : World} {x y : Value} {n b9 g m : Nat} {vs : List Nat} (h : RpInv w wr x y n b9 g m vs) (hb : Below wr.heap.size wr wx) : RpInv w wx x y n b9 g m vs :=
  ⟨h.K.below hb, h.t9.below hb h.t9.lt, h.row.below hb h.row.lt, h.h9, h.hg, h.ne⟩
theorem RpInv.set_ {w wr : World} {x y : Value} {n b9 g m : Nat} {vs : List Nat} (h : RpInv w wr x y n b9 g m vs) (k v : Nat) : RpInv w (wr.drew.setCell ⟨g, k, none⟩ (.int .u64 (v : Int))) x y n b9 g m (vs.set k v) := by
  have h1 := h.hg
  have h2 := h.ne
  exact ⟨⟨h.K.t.drew.far (by simp; omega) _, h.K.r.drew.far (by simp; omega) _, h.K.bel.drew.setCell (by simp; omega) _⟩, h.t9.drew.far (by simpa using h2) _, WBlk.set_ h.row.drew _ _, h.h9, h.hg, h.ne⟩

theorem rp_a {w w1 : World} {x y : Value} {n m : Nat} (K : PtInv w w1 x y) :
    RpInv w ((w1.alloc (.cells (wcells (List.replicate m 0)) 38)).alloc (.cells #[.int .i64 (n : Int), .slice (some ⟨w1.heap.size, 0, none⟩) m m] 24)).drew x y n (w1.heap.size + 1) w1.heap.size m (List.replicate m 0) := by
  have h1 := K.r.lt
  refine ⟨((K.alloc _).alloc _).drew, ?_, ((WBlk.new_ _ _).alloc _).drew, by omega, h1, by omega⟩
  have := Two.new_ (w1.alloc (.cells (wcells (List.replicate m 0)) 38)) (.int .i64 (n : Int)) (.slice (some ⟨w1.heap.size, 0, none⟩) m m) 24
  rw [World.size_alloc] at this
  exact this.drew
theorem rp_b {w w1 : World} {x y : Value} {n m : Nat} (K : PtInv w w1 x y) :
    RpInv w ((w1.alloc (.cells #[.int .i64 (n : Int), .slice (some ⟨w1.heap.size + 1, 0, none⟩) m m] 24)).alloc (.cells (wcells (List.replicate m 0)) 38)).drew x y n w1.heap.size (w1.heap.size + 1) m (List.replicate m 0) := by
  have h1 := K.r.lt
  refine ⟨((K.alloc _).alloc _).drew, ((Two.new_ _ _ _ _).alloc _).drew, ?_, h1, by omega, by omega⟩
  have := WBlk.new_ (w1.alloc (.cells #[.int .i64 (n : Int), .slice (some ⟨w1.heap.size + 1, 0, none⟩) m m] 24)) (List.replicate m 0)
  rw [World.size_alloc] at this
  exact this.drew
theorem rp_miss {p : List Int} {n k c : Nat} {ws : List Nat} (h : (Kp.lab p k == (c : Int) && Kb.bitAt ws k) = false) :
    Kb.mkWords n (fun j => decide (j < k + 1) && (Kp.lab p j == (c : Int) && Kb.bitAt ws j)) = Kb.mkWords n (fun j => decide (j < k) && (Kp.lab p j == (c : Int) && Kb.bitAt ws j)) := by
  refine Kb.mkWords_congr fun j _ => ?_
  by_cases e : j = k
  · subst e; simp [h]
  · rw [show decide (j < k + 1) = decide (j < k) by simp; omega]
theorem rp_hit {p : List Int} {n k c x : Nat} {ws : List Nat} (hk : k < n) (h : (Kp.lab p k == (c : Int) && Kb.bitAt ws k) = true)
    (hx : x = (Kb.mkWords n (fun j => decide (j < k) && (Kp.lab p j == (c : Int) && Kb.bitAt ws j))).getD (k / 64) 0) :
    (Kb.mkWords n (fun j => decide (j < k) && (Kp.lab p j == (c : Int) && Kb.bitAt ws j))).set (k / 64) (x ||| 2 ^ (k % 64)) = Kb.mkWords n (fun j => decide (j < k + 1) && (Kp.lab p j == (c : Int) && Kb.bitAt ws j)) := by
  rw [hx, Kb.set_or (Kb.Ok.mk_ n _) k hk]
  refine Kb.mkWords_congr fun j hj => ?_
  rw [Kb.bitAt_mkWords]
  by_cases e : j = k
  · subst e; simp [h]
  · rw [show decide (j < k + 1) = decide (j < k) by simp; omega]
    simp [e, hj]

set_option maxRecDepth 100000 in
set_option maxHeartbeats 4000000 in
theorem rpart_ok (A : Option Addr) (ca : Nat) (p : List Int) (n : Nat) (B : Option Addr) (cb : Nat) (ws : List Nat) (c : Nat) (w : World) (ha : Ints w w.heap.size A p) (hb : Words w w.heap.size B ws) (hn : n ≤ 4096) (hc : scode p n ws = 0) (hcc : c < Kp.cnt0 p) :
    Calls Tryd.prog 17 #[.slice A p.length ca, setV n B ws.length cb, .int .i64 (c : Int)] w (SetRes n (ptW p n ws c) w) := by
  obtain ⟨hvp, hvs, hs⟩ := scode_zero hc
  have hpn : p.length = n := by omega
  have hok := ((Kb.validB_iff hb.lt).1 hvs).2.2
  rw [Int.toNat_natCast] at hok
  have hl : ws.length ≤ 64 := by rw [hok.len]; unfold Kb.nw; omega
  have HL : Hid (ws.length = Kb.nw n) := Lib.hid hok.len
  obtain ⟨m, hm⟩ : ∃ m, Hid (Kp.cnt0 p = m) := ⟨_, Lib.hid rfl⟩
  rw [hm.out] at hcc
  have HC := Lib.hid hc
  have HP := Lib.hid hpn
  have hpl : p.length ≤ 4096 := by omega
  have q0 : ¬ (c : Int) < 0 := by omega
  have q1 : ¬ (m : Int) ≤ (c : Int) := by omega
  have hmk := makeWords ws.length (by omega)
  clear hc hvp hvs hs hpn hcc
  unfold setV
  go_enter Tryd.func17, Tryd.ntmps17
  go_wp2_with fail
  have K0 := PtInv.new_ w (.int .i64 (n : Int)) (.slice B ws.length cb) 24 24
  refine (split_any A ca p n B cb ws _ ((ha.below K0.bel).more K0.bel.size) ((hb.below K0.bel).more K0.bel.size) (by omega) (by omega)).mono ?_
  rintro e w1 ⟨rfl, hb1⟩
  rw [HC.out]
  have K := K0.below hb1
  clear K0 hb1
  go_wp2_with fail
  refine (rcount_any A ca p _ ((ha.below K.bel).more K.bel.size) (by omega)).mono ?_
  rintro e w2 ⟨rfl, rfl⟩
  rw [hm.out]
  go_wp2_with fail
  go_cut [9] (fun s9 wx => ∃ b9 g, s9 = .pointer (some ⟨b9, 0, none⟩) ∧ RpInv w wx (.int .i64 (n : Int)) (.slice B ws.length cb) n b9 g ws.length (List.replicate ws.length 0))
  case first =>
    have c00 := K.t.c0
    have c01 := K.t.c1
    have c0l := K.t.lt
    have K1 := K.drew
    have c0 := K1.t.c0
    have c1 := K1.t.c1
    have cl := K1.t.lt
    go_region
    all_goals
      go_wp2_with fail
      go_meet
      first
        | exact ⟨_, _, rfl, rp_a K⟩
        | exact ⟨_, _, rfl, rp_b K⟩
  case rest =>
    obtain ⟨b9, g, rfl, P0⟩ := hcut
    clear K hmk
    go_wp2_with fail
    go_loopw [10] (fun iv wr => ∃ k : Nat, k ≤ n ∧ iv = .int .i64 k ∧ RpInv w wr (.int .i64 (n : Int)) (.slice B ws.length cb) n b9 g ws.length (Kb.mkWords n (fun j => decide (j < k) && (Kp.lab p j == (c : Int) && Kb.bitAt ws j)))) (fun iv _ => n - (intOf iv).toNat)
    case atStart =>
      refine ⟨0, Nat.zero_le _, rfl, ?_⟩
      rw [zeros_mk n _ (fun j => by simp), ← HL.out]
      exact P0
    case round =>
      obtain ⟨k, hk, rfl, P⟩ := hrel
      clear P0
      by_cases hlt : k < n
      · have hipI : (k : Int) < (p.length : Int) := by have := HP.out; omega
        obtain ⟨bp, op, z, rfl, hbp, hcp, hz⟩ := (ha.below P.K.bel).at_ (k := k) (by have := HP.out; omega)
        have hzl : Hid (z = Kp.lab p k) := Lib.hid hz.out.1
        have c20 := P.K.t.c0
        have c21 := P.K.t.c1
        by_cases hzc : z = (c : Int)
        · have hzb : (z == (c : Int)) = true := by simp [hzc]
          have HZ := Lib.hid hzc
          clear hzc
          go_wp2_with fail
          refine (rhas_ok n B cb ws k _ ((hb.below P.K.bel).more P.K.bel.size) hok hn hlt).mono ?_
          rintro e w3 ⟨rfl, hb3⟩
          have P3 := P.below hb3
          clear c20 c21 P hb3
          cases hbit : Kb.bitAt ws k with
          | true =>
            have HB := Lib.hid hbit
            clear hbit
            have hj2 : k / 64 < ws.length := by rw [HL.out]; unfold Kb.nw; omega
            have hcx := P3.row.cell (k := k / 64) (by rw [Kb.mkWords_length, ← HL.out]; exact hj2)
            have hfx := P3.row.frozen (k / 64)
            obtain ⟨x, hX⟩ : ∃ x : Nat, Hid (x = (Kb.mkWords n (fun j => decide (j < k) && (Kp.lab p j == (c : Int) && Kb.bitAt ws j))).getD (k / 64) 0) := ⟨_, Lib.hid rfl⟩
            rw [← hX.out] at hcx
            have d90 := P3.t9.c0
            have d91 := P3.t9.c1
            have e1 : IntKind.i64.wrap ((k : Int) / 64) = (k : Int) / 64 := IntWalk.i64_in _ (by omega)
            have e2 : ((k : Int)).tmod 64 = (k : Int) % 64 := Int.tmod_eq_emod_of_nonneg (by omega)
            have e3 : ((k : Int) / 64).toNat = k / 64 := by omega
            have e4 : (k : Int) / 64 < (ws.length : Int) := by omega
            have e5 : (0 : Int) ≤ (k : Int) / 64 := by omega
            go_wp2_with fail
            go_region
            rw [or_pow x (k % 64) (by rw [hX.out]; exact (Kb.Ok.mk_ n _).get_lt _) (Nat.mod_lt _ (by decide))]
            go_wp2_with fail
            go_roundw
            case rel =>
              refine ⟨k + 1, by omega, by go_num, ?_⟩
              rw [← rp_hit hlt (by rw [← hzl.out, HZ.out, HB.out]; simp) hX.out]
              exact P3.set_ _ _
            case measure => simp [intOf]; omega
          | false =>
            have HB := Lib.hid hbit
            clear hbit
            go_wp2_with fail
            go_roundw
            case rel =>
              refine ⟨k + 1, by omega, by go_num, ?_⟩
              rw [rp_miss (by rw [HB.out]; simp)]
              exact P3
            case measure => simp [intOf]; omega
        · have hzb : (z == (c : Int)) = false := by simpa using hzc
          have HZ := Lib.hid hzb
          clear hzc
          go_wp2_with fail
          go_roundw
          case rel =>
            refine ⟨k + 1, by omega, by go_num, ?_⟩
            rw [rp_miss (by rw [← hzl.out, HZ.out]; rfl)]
            exact P
          case measure => simp [intOf]; omega
      · obtain rfl : k = n := by omega
        have hipI : ¬ (k : Int) < (p.length : Int) := by have := HP.out; omega
        have hE : Kb.mkWords k (fun j => decide (j < k) && (Kp.lab p j == (c : Int) && Kb.bitAt ws j)) = ptW p k ws c := Kb.mkWords_congr fun j hj => by simp [hj]
        rw [hE] at P
        have HE : Hid ((ptW p k ws c).length = ws.length) := Lib.hid (by unfold ptW; rw [Kb.mkWords_length, HL.out])
        clear hE
        have d90 := P.t9.c0
        have d91 := P.t9.c1
        have d0 := P.K.r.c0
        have d1 := P.K.r.c1
        have f0 := P.K.r.fr 0
        have f1 := P.K.r.fr 1
        go_wp2_with fail
        obtain ⟨r0, r1⟩ := two_set wr (.int .i64 (k : Int)) (.slice (some ⟨g, 0, none⟩) ws.length ws.length) d0 d1
        refine bodyPost_ret (v := .tuple #[setV k (some ⟨g, 0, none⟩) ws.length ws.length, .int .i64 0]) (by simp [results, Tryd.results17, go_sem, r0, r1, setV]) rfl ?_
        rw [← HE.out]
        exact pt_end P.K (P.row.words P.row.lt (Kb.mkWords_lt _ _)) _ _
end Go.Proofs.YtcicejmahlobhaaDoor
