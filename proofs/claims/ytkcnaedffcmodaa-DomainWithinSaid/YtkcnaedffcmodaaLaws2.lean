/- The laws DomainNext, DomainInputs, DomainKinds, walked. -/
import Derived.Test.YtkcnaedffcmodaaLaws
namespace Go.Proofs.Ytkcnaedffcmodaa
open Go.RowKit Go.Maps
set_option linter.unusedVariables false

namespace Kd
/-- what Next finds -/
theorem ne_law {k : Int} {vs : List V} {xs : List Int} (h : raC k vs xs = 0) :
    ∃ n : Nat, raN k vs xs = (n : Int) ∧ n ≤ 4096 ∧ ((neM k vs xs = false ∧ ∃ p : Nat, p ≤ 4096 ∧ spN k vs = (p : Int) ∧ (n : Int) = (p : Int) - 1) ∨ (neM k vs xs = true ∧ raC k vs (neX k vs xs) = 0 ∧ raN k vs (neX k vs xs) = (n : Int) + 1)) := by
  obtain ⟨hc, hr⟩ := ra_zero h
  obtain ⟨n, hn1, hn2, hn3⟩ := rk_num hr
  have hsp := (code_ok hc).2.2.sp
  have hN : raN k vs xs = (n : Int) := by rw [(ra_ok hc).1, hn1]
  refine ⟨n, hN, by omega, ?_⟩
  rw [(ne_ok h).1, (ne_ok h).2, hN]
  by_cases hl : n + 1 = pr (digs k vs)
  · refine .inl ⟨?_, pr (digs k vs), hsp, spN_ok hc, by omega⟩
    rw [(ua_ok hc).2, (un_out (by omega)).2]; rfl
  · refine .inr ⟨?_, ?_⟩
    · have := (un_in (ds := digs k vs) (r := n + 1) (by omega)).2
      rw [(ua_ok hc).2, show (n : Int) + 1 = ((n + 1 : Nat) : Int) by omega, this]; rfl
    · have h0 : uaC k vs ((n : Int) + 1) = 0 := by
        have := (un_in (ds := digs k vs) (r := n + 1) (by omega)).2
        rw [(ua_ok hc).2, show (n : Int) + 1 = ((n + 1 : Nat) : Int) by omega, this]
      exact ra_un h0
theorem ne_len {k : Int} {vs : List V} {xs : List Int} (hl : vs.length ≤ 1000000) : (neX k vs xs).length ≤ 1000000 := by
  unfold neX
  split
  · exact ua_len hl
  · simp
theorem inZ_len {vs : List V} {s p r : Int} {l : List Int} {n : Nat} (h : l.length ≤ n) : (inZ vs s p r l).length ≤ n := by
  unfold inZ
  split
  · exact h
  · simp
theorem ne_false {k : Int} {vs : List V} {xs : List Int} (h : raC k vs xs ≠ 0) : neM k vs xs = false := (ne_bad h).2
/-- variables of other kinds do not matter -/
theorem sel_code {k : Int} {vs : List V} : code k (sel k vs) = code k vs ∧ digs k (sel k vs) = digs k vs := by
  unfold code digs
  rw [sel_sel]; exact ⟨rfl, rfl⟩
theorem sel_sp {k : Int} {vs : List V} : spN k (sel k vs) = spN k vs := by unfold spN; rw [sel_code.1, sel_code.2]
theorem sel_ua {k : Int} {vs : List V} {r : Int} : uaX k (sel k vs) r = uaX k vs r ∧ uaC k (sel k vs) r = uaC k vs r := by
  unfold uaX uaC; rw [sel_code.1, sel_code.2]; exact ⟨rfl, rfl⟩
end Kd

set_option maxRecDepth 100000 in
set_option maxHeartbeats 2000000 in
theorem next_walk (A : Option Addr) (c : Nat) (vs : List Kd.V) (k : Int) (B : Option Addr) (cb : Nat) (xs : List Int) (w : World) (h : Vrs w w.heap.size A vs) (hx : Ints w w.heap.size B xs) :
    Calls Try.prog 7 #[.slice A vs.length c, .int .i64 k, .slice B xs.length cb] w (LawRes w) := by
  go_enter Try.func7, Try.ntmps7
  go_wp2_with fail
  refine (known_ok w).mono ?_
  rintro e w1 ⟨rfl, B1⟩
  by_cases h1 : 80 < vs.length
  · have h1' : (80 : Int) < (vs.length : Int) := by omega
    go_wp2_with fail
    go_ret
    exact ⟨rfl, B1⟩
  have h1' : ¬ (80 : Int) < (vs.length : Int) := by omega
  by_cases h2 : 80 < xs.length
  · have h2' : (80 : Int) < (xs.length : Int) := by omega
    go_wp2_with fail
    go_ret
    exact ⟨rfl, B1⟩
  have h2' : ¬ (80 : Int) < (xs.length : Int) := by omega
  have hl : vs.length ≤ 1000000 := by omega
  have V1 := h.at B1
  have X1 := hx.at B1
  clear h1 h2
  go_wp2_with fail
  refine (next_all A c vs k B cb xs _ V1 hl X1).mono ?_
  rintro e w2 ⟨A2, c2, rfl, I2, n2⟩
  have V2 := V1.at n2
  have X2 := X1.at n2
  have B2 := bTrans B1 n2
  clear V1 X1 B1 n2 h1' h2'
  go_wp2_with fail
  refine (rnext_any A c vs k B cb xs _ V2 hl X2).mono ?_
  rintro e w3 ⟨A3, c3, rfl, I3, n3⟩
  have V3 := V2.at n3
  have X3 := X2.at n3
  have J3 := I2.at n3
  have B3 := bTrans B2 n3
  have hnl : (Kd.neX k vs xs).length ≤ 140737488351232 := Nat.le_trans (Kd.ne_len hl) (by omega)
  have HL := Lib.hid (fun h => Kd.ne_law (k := k) (vs := vs) (xs := xs) h)
  have HF := Lib.hid (fun h => Kd.ne_false (k := k) (vs := vs) (xs := xs) h)
  clear V2 X2 B2 n3 I2
  revert I3 J3 hnl HL HF
  generalize Kd.neX k vs xs = zs
  generalize Kd.neM k vs xs = m
  intro I3 J3 hnl HL HF
  go_wp2_with fail
  refine (same_any A2 A3 c2 c3 zs zs _ J3 I3 hnl).mono ?_
  rintro e w4 ⟨rfl, n4⟩
  rw [beq_self_eq_true]
  have V4 := V3.at n4
  have X4 := X3.at n4
  have J4 := J3.at n4
  have B4 := bTrans B3 n4
  clear V3 X3 J3 I3 B3 n4
  by_cases hr : Kd.raC k vs xs = 0
  · obtain ⟨n, hn, hn4, hcase⟩ := HL.out hr
    have HN := Lib.hid hn
    have HC := Lib.hid hr
    have HCA := Lib.hid hcase
    rw [hr]
    clear hn hr hcase
    go_wp2_with fail
    refine (rank_all A c vs k B cb xs _ V4 hl X4).mono ?_
    rintro e w5 ⟨rfl, n5⟩
    rw [HN.out, HC.out]
    have V5 := V4.at n5
    have J5 := J4.at n5
    have B5 := bTrans B4 n5
    clear V4 X4 J4 B4 n5
    go_wp2_with fail
    refine (space_any A c vs k _ V5 hl).mono ?_
    rintro e w6 ⟨rfl, n6⟩
    have V6 := V5.at n6
    have J6 := J5.at n6
    have B6 := bTrans B5 n6
    clear V5 J5 B5 n6
    rcases HCA.out with ⟨hm, p, hp, hsp, hnp⟩ | ⟨hm, hr0, hr1⟩
    · rw [hsp]
      subst hm
      have g1 : ((n : Int) == (p : Int) - 1) = true := by simpa using hnp
      clear hsp hnp
      go_wp2_with fail
      go_ret
      exact ⟨rfl, B6⟩
    · subst hm
      have H0 := Lib.hid hr0
      have H1 := Lib.hid hr1
      clear hr0 hr1
      go_wp2_with fail
      refine (rank_all A c vs k A2 c2 zs _ V6 hl J6).mono ?_
      rintro e w7 ⟨rfl, n7⟩
      rw [H0.out, H1.out]
      go_wp2_with fail
      go_ret
      exact ⟨rfl, bTrans B6 n7⟩
  · have hne : (Kd.raC k vs xs != 0) = true := by simpa using hr
    have hm := HF.out hr
    subst hm
    clear hr
    go_wp2_with fail
    go_ret
    exact ⟨rfl, B4⟩

set_option maxRecDepth 100000 in
set_option maxHeartbeats 2000000 in
theorem kinds_walk (A : Option Addr) (c : Nat) (vs : List Kd.V) (k : Int) (r : Int) (w : World) (h : Vrs w w.heap.size A vs) :
    Calls Try.prog 10 #[.slice A vs.length c, .int .i64 k, .int .i64 r] w (LawRes w) := by
  go_enter Try.func10, Try.ntmps10
  go_wp2_with fail
  refine (known_ok w).mono ?_
  rintro e w1 ⟨rfl, B1⟩
  by_cases h1 : 80 < vs.length
  · have h1' : (80 : Int) < (vs.length : Int) := by omega
    go_wp2_with fail
    go_ret
    exact ⟨rfl, B1⟩
  have h1' : ¬ (80 : Int) < (vs.length : Int) := by omega
  have hl : vs.length ≤ 1000000 := by omega
  have hl48 : vs.length * 48 ≤ 140737488351232 := by omega
  have hls : (Kd.sel k vs).length ≤ 1000000 := Nat.le_trans (List.length_filter_le _ _) hl
  have V1 := h.at B1
  clear h1
  go_wp2_with fail
  refine (of_any A c vs k _ V1 hl48).mono ?_
  rintro e w2 ⟨A2, c2, rfl, S2, n2⟩
  have V2 := V1.at n2
  have B2 := bTrans B1 n2
  have HU := Lib.hid (Kd.sel_ua (k := k) (vs := vs) (r := r))
  have HS := Lib.hid (Kd.sel_sp (k := k) (vs := vs))
  have HC := Lib.hid (Kd.sel_code (k := k) (vs := vs)).1
  clear V1 B1 n2 h1'
  revert S2 hls HU HS HC
  generalize Kd.sel k vs = l
  intro hls S2 HU HS HC
  go_wp2_with fail
  refine (unrank_all A c vs k r _ V2 hl).mono ?_
  rintro e w3 ⟨A3, c3, rfl, I3, n3⟩
  have V3 := V2.at n3
  have S3 := S2.at n3
  have B3 := bTrans B2 n3
  clear V2 S2 B2 n3
  go_wp2_with fail
  refine (unrank_all A2 c2 l k r _ S3 hls).mono ?_
  rintro e w4 ⟨A4, c4, rfl, I4, n4⟩
  rw [HU.out.1] at I4 ⊢
  rw [HU.out.2]
  have V4 := V3.at n4
  have S4 := S3.at n4
  have J4 := I3.at n4
  have B4 := bTrans B3 n4
  have hul : (Kd.uaX k vs r).length ≤ 140737488351232 := Nat.le_trans (Kd.ua_len hl) (by omega)
  clear V3 S3 B3 n4 I3
  go_wp2_with fail
  refine (space_any A c vs k _ V4 hl).mono ?_
  rintro e w5 ⟨rfl, n5⟩
  have S5 := S4.at n5
  have J5 := J4.at n5
  have K5 := I4.at n5
  have B5 := bTrans B4 n5
  clear V4 S4 B4 n5 J4 I4
  go_wp2_with fail
  refine (space_any A2 c2 l k _ S5 hls).mono ?_
  rintro e w6 ⟨rfl, n6⟩
  rw [HS.out, HC.out]
  have J6 := J5.at n6
  have K6 := K5.at n6
  have B6 := bTrans B5 n6
  clear S5 B5 n6 J5 K5
  go_wp2_with fail
  refine (same_any A3 A4 c3 c4 _ _ _ J6 K6 hul).mono ?_
  rintro e w7 ⟨rfl, n7⟩
  rw [beq_self_eq_true]
  go_wp2_with fail
  go_ret
  exact ⟨rfl, bTrans B6 n7⟩

set_option maxRecDepth 100000 in
set_option maxHeartbeats 2000000 in
theorem inputs_walk (A : Option Addr) (c : Nat) (vs : List Kd.V) (x y z : Int) (w : World) (h : Vrs w w.heap.size A vs) :
    Calls Try.prog 8 #[.slice A vs.length c, .agg #[.int .i64 x, .int .i64 y, .int .i64 z]] w (LawRes w) := by
  have t0 := Three.new_ w (.int .i64 x) (.int .i64 y) (.int .i64 z) 40
  have b0 := newB1 w (.cells #[.int .i64 x, .int .i64 y, .int .i64 z] 40)
  have h0 := h.at b0
  go_enter Try.func8, Try.ntmps8
  go_wp2_with fail
  clear h
  revert t0 b0 h0
  generalize w.alloc (.cells #[.int .i64 x, .int .i64 y, .int .i64 z] 40) = w0
  intro t0 b0 h0
  refine (known_ok w0).mono ?_
  rintro e w1 ⟨rfl, n1⟩
  have t1 := t0.below n1 t0.lt
  have B1 := bTrans b0 n1
  have V1 := h0.at n1
  clear t0 b0 h0 n1
  by_cases h1 : 80 < vs.length
  · have h1' : (80 : Int) < (vs.length : Int) := by omega
    go_wp2_with fail
    go_ret
    exact ⟨rfl, B1⟩
  have h1' : ¬ (80 : Int) < (vs.length : Int) := by omega
  have hl : vs.length ≤ 1000000 := by omega
  have x0 := t1.c0
  have x1 := t1.c1
  have x2 := t1.c2
  clear h1
  go_wp2_with fail
  refine (inputs_all A c vs x y z _ V1 hl).mono ?_
  rintro e w2 ⟨A1, c1, A2, c2, A3, c3, rfl, I1, I2, I3, n2⟩
  have t2 := t1.below n2 t1.lt
  have B2 := bTrans B1 n2
  have V2 := V1.at n2
  have l1 : (Kd.inZ vs x y z (Kd.uaX 1 vs x)).length ≤ 140737488351232 := Nat.le_trans (Kd.inZ_len (Kd.ua_len hl)) (by omega)
  have l2 : (Kd.inZ vs x y z (Kd.uaX 2 vs y)).length ≤ 140737488351232 := Nat.le_trans (Kd.inZ_len (Kd.ua_len hl)) (by omega)
  have l3 : (Kd.inZ vs x y z (Kd.uaX 3 vs z)).length ≤ 140737488351232 := Nat.le_trans (Kd.inZ_len (Kd.ua_len hl)) (by omega)
  have HI := Lib.hid (fun (W : World) (hV : Vrs W W.heap.size A vs) => rinputs_any A c vs x y z W hV hl)
  unfold InpRes at HI
  clear t1 x0 x1 x2 V1 B1 n2 h1' hl
  revert I1 I2 I3 l1 l2 l3 HI
  generalize Kd.inZ vs x y z (Kd.uaX 1 vs x) = z1
  generalize Kd.inZ vs x y z (Kd.uaX 2 vs y) = z2
  generalize Kd.inZ vs x y z (Kd.uaX 3 vs z) = z3
  generalize Kd.inC vs x y z = C
  intro I1 I2 I3 l1 l2 l3 HI
  have n3 := newB1 w2 (.cells #[.slice A1 z1.length c1, .slice A2 z2.length c2, .slice A3 z3.length c3] 42)
  have u3 := Three.new_ w2 (.slice A1 z1.length c1) (.slice A2 z2.length c2) (.slice A3 z3.length c3) 42
  have t3 := t2.below n3 t2.lt
  have B3 := bTrans B2 n3
  have V3 := V2.at n3
  replace I1 := I1.at n3
  replace I2 := I2.at n3
  replace I3 := I3.at n3
  have x0 := t3.c0
  have x1 := t3.c1
  have x2 := t3.c2
  clear t2 B2 V2 n3
  go_upto_region 6 with (fail)
  revert I1 I2 I3 u3 t3 B3 V3 x0 x1 x2
  generalize w2.alloc (.cells #[.slice A1 z1.length c1, .slice A2 z2.length c2, .slice A3 z3.length c3] 42) = w3
  generalize w2.heap.size = g
  intro u3 t3 B3 V3 I1 I2 I3 x0 x1 x2
  go_wp2_with fail
  refine (HI.out _ V3).mono ?_
  rintro e w4 ⟨A4, c4, A5, c5, A6, c6, rfl, J1, J2, J3, n4⟩
  have u4 := u3.below n4 u3.lt
  have B4 := bTrans B3 n4
  replace I1 := I1.at n4
  replace I2 := I2.at n4
  replace I3 := I3.at n4
  have n5 := newB1 w4 (.cells #[.slice A4 z1.length c4, .slice A5 z2.length c5, .slice A6 z3.length c6] 42)
  have v5 := Three.new_ w4 (.slice A4 z1.length c4) (.slice A5 z2.length c5) (.slice A6 z3.length c6) 42
  have u5 := u4.below n5 u4.lt
  have B5 := bTrans B4 n5
  replace I1 := I1.at n5
  replace I2 := I2.at n5
  replace I3 := I3.at n5
  replace J1 := J1.at n5
  replace J2 := J2.at n5
  replace J3 := J3.at n5
  clear u3 t3 B3 V3 x0 x1 x2 n4 u4 B4 n5
  go_upto_region 7 with (fail)
  revert I1 I2 I3 J1 J2 J3 v5 u5 B5
  generalize w4.alloc (.cells #[.slice A4 z1.length c4, .slice A5 z2.length c5, .slice A6 z3.length c6] 42) = w5
  generalize w4.heap.size = g2
  intro v5 u5 B5 I1 I2 I3 J1 J2 J3
  have p0 := v5.c0
  have q0 := u5.c0
  go_wp2_with fail
  refine (same_any A1 A4 c1 c4 z1 z1 _ I1 J1 l1).mono ?_
  rintro e w6 ⟨rfl, n6⟩
  rw [beq_self_eq_true]
  have u6 := u5.below n6 u5.lt
  have v6 := v5.below n6 v5.lt
  have B6 := bTrans B5 n6
  replace I2 := I2.at n6
  replace I3 := I3.at n6
  replace J2 := J2.at n6
  replace J3 := J3.at n6
  clear p0 q0 u5 v5 B5 n6 I1 J1
  have p0 := v6.c1
  have q0 := u6.c1
  go_wp2_with fail
  refine (same_any A2 A5 c2 c5 z2 z2 _ I2 J2 l2).mono ?_
  rintro e w7 ⟨rfl, n7⟩
  rw [beq_self_eq_true]
  have u7 := u6.below n7 u6.lt
  have v7 := v6.below n7 v6.lt
  have B7 := bTrans B6 n7
  replace I3 := I3.at n7
  replace J3 := J3.at n7
  clear p0 q0 u6 v6 B6 n7 I2 J2
  have p0 := v7.c2
  have q0 := u7.c2
  go_wp2_with fail
  refine (same_any A3 A6 c3 c6 z3 z3 _ I3 J3 l3).mono ?_
  rintro e w8 ⟨rfl, n8⟩
  rw [beq_self_eq_true]
  go_wp2_with fail
  go_ret
  exact ⟨rfl, bTrans B7 n8⟩
end Go.Proofs.Ytkcnaedffcmodaa
