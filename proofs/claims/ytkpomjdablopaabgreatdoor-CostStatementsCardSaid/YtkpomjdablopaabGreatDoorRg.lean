/- Walks: the reference of package cost: node, Sum, isPlace, List, Check, counts. -/
import Derived.Test.YtkpomjdablopaabGreatDoorRf
namespace Go.Proofs.YtkpomjdablopaabGreatDoor
open Go.RowKit Go.Sort
set_option linter.unusedVariables false

set_option maxRecDepth 100000 in
set_option maxHeartbeats 1000000 in
theorem rnode_any (c : C) (o : Int) (w : World) : Calls Tryz.prog 49 #[c.val, .int .i64 o] w fun r w' => r = .returned (.int .i64 (c.opC o)) ∧ Below w.heap.size w w' := by
  obtain ⟨z, hz⟩ : ∃ z, Hid (z = c.opC o) := ⟨_, Lib.hid rfl⟩
  rw [← hz.out]
  go_enter Tryz.func49, Tryz.ntmps49
  go_wp2_with fail
  all_goals
    go_ret
    refine ⟨ret_int ?_, al1 _ _⟩
    rw [hz.out]
    clear hz
    unfold C.opC
    simp_all

/-- the contract of the sum at one expression -/
def SmE (c : C) (e : E) : Prop := ∀ w : World, E.In w w.heap.size e → e.nodes ≤ 1000000 → Calls Tryz.prog 40 #[c.val, e.val] w fun r w' => r = .returned (.int .i64 (e.sum c.opC)) ∧ Below w.heap.size w w'
set_option maxRecDepth 100000 in
set_option maxHeartbeats 2000000 in
theorem rsum_any (c : C) (hc : c.ok = true) (e : E) : SmE c e := by
  induction e using E.ind with
  | h e ih =>
  intro w hin hmx
  have IH := Lib.hid ih
  have hl := hin.l
  have hlen := hin.nd.len
  have HN := Lib.hid (E.nodes_eq e)
  have HS := Lib.hid (E.sum_eq c.opC e)
  have hop := C.opC_bd hc e.op
  have HC := Lib.hid hc
  obtain ⟨oc, hoc⟩ : ∃ oc, Hid (c.opC e.op = oc) := ⟨_, Lib.hid rfl⟩
  rw [hoc.out] at hop HS
  obtain ⟨A, hA⟩ : ∃ A, Hid (e.ad = A) := ⟨_, Lib.hid rfl⟩
  rw [hA.out] at hl
  have X := CeW.start w c e 23 27
  clear ih hc
  go_enter Tryz.func40, Tryz.ntmps40
  go_upto_region 1 with (fail)
  revert X
  generalize (w.alloc (.cells #[.int .i64 c.assign, .int .i64 c.branch, .int .i64 c.loop, .int .i64 c.call, .int .i64 c.output, .int .i64 c.release, .int .i64 c.load, .int .i64 c.index, .int .i64 c.arith, .int .i64 c.multiply, .int .i64 c.divide, .int .i64 c.compare, .int .i64 c.logic] 23)).alloc (.cells #[.int .i64 e.op, .int .i64 e.n, .string e.nm, .slice e.ad e.ks.length e.cap] 27) = w1
  intro X
  obtain ⟨hc0, hc1, hc2, hc3, hc4, hc5, hc6, hc7, hc8, hc9, hc10, hc11, hc12⟩ := c13 X.bc
  obtain ⟨he0, he1, he2, he3⟩ := e4 X.be
  go_wp2_with fail
  refine (rnode_any c e.op _).mono ?_
  rintro r w2 ⟨rfl, b2⟩
  rw [hoc.out]
  replace X := X.below b2
  clear hc0 hc1 hc2 hc3 hc4 hc5 hc6 hc7 hc8 hc9 hc10 hc11 hc12 he0 he1 he2 he3 b2
  go_wp2_with fail
  go_loopw [5, 6] (fun nv iv wr => ∃ (i : Nat) (z : Int), i ≤ e.ks.length ∧ iv = .int .i64 i ∧ nv = .int .i64 z ∧ Hid (z = oc + E.sumL c.opC (e.ks.take i)) ∧ 0 ≤ z ∧ z ≤ 100000000 ∧ CeW w wr c e) (fun _ iv _ => e.ks.length - (intOf iv).toNat)
  case atStart => exact ⟨0, oc, Nat.zero_le _, rfl, rfl, Lib.hid (by simp [E.sumL]), hop.1, by omega, X⟩
  case round =>
    clear X
    obtain ⟨i, z, hi, rfl, rfl, hz, hz1, hz2, Y⟩ := hrel
    obtain ⟨he0, he1, he2, he3⟩ := e4 Y.be
    rw [hA.out] at he3
    by_cases hlt : i < e.ks.length
    · obtain ⟨ab, off, k, rfl, hab, d0, d1, d2, d3, his, hkin⟩ := (hl.below Y.bel).at_ hlt
      have HI := Lib.hid (IH.out k his.mem)
      have hs := E.nodes_kid his
      have hkb : k.nodes ≤ 1000000 := by have := HN.out; omega
      have hsb := C.sum_bd HC.out k
      have hsb2 := C.sumL_bd HC.out (e.ks.take (i + 1))
      have hsn := E.nodesL_take e.ks (i + 1)
      obtain ⟨s, hsv⟩ : ∃ s, Hid (k.sum c.opC = s) := ⟨_, Lib.hid rfl⟩
      obtain ⟨t, ht⟩ : ∃ t, Hid (z + s = t) := ⟨_, Lib.hid rfl⟩
      have HT : Hid (t = oc + E.sumL c.opC (e.ks.take (i + 1))) := Lib.hid (by rw [← ht.out, his.take, E.sumL_snoc, hz.out, hsv.out]; omega)
      have htb : 0 ≤ t ∧ t ≤ 100000000 := by rw [HT.out]; have := HN.out; omega
      have hw : IntKind.i64.wrap (z + s) = t := by rw [ht.out]; exact IntWalk.i64_in _ (by omega)
      have hkw : ∀ d os, E.In (grow (redrawn wr d) os) (grow (redrawn wr d) os).heap.size k := fun d os => (hkin.more Y.bel.size).at (below_regrown wr d os)
      have Q1 := Lib.hid (show ∀ d os, Calls Tryz.prog 40 #[c.val, k.val] (grow (redrawn wr d) os) fun r w'' => r = .returned (.int .i64 s) ∧ ∃ p : Regrown, w'' = grow (redrawn wr p.d) p.os from
        fun d os => Calls.regrown_of (by rw [← hsv.out]; exact HI.out _ (hkw d os) hkb))
      obtain ⟨hc0, hc1, hc2, hc3, hc4, hc5, hc6, hc7, hc8, hc9, hc10, hc11, hc12⟩ := c13 Y.bc
      clear hkw hsb hsb2 hsn hs hkin hkb hop
      go_upto_region 5 with (fail)
      have kc0 := cell_regrown hc0
      have kc1 := cell_regrown hc1
      have kc2 := cell_regrown hc2
      have kc3 := cell_regrown hc3
      have kc4 := cell_regrown hc4
      have kc5 := cell_regrown hc5
      have kc6 := cell_regrown hc6
      have kc7 := cell_regrown hc7
      have kc8 := cell_regrown hc8
      have kc9 := cell_regrown hc9
      have kc10 := cell_regrown hc10
      have kc11 := cell_regrown hc11
      have kc12 := cell_regrown hc12
      have ke3 := cell_regrown he3
      have kd0 := cell_regrown d0
      have kd1 := cell_regrown d1
      have kd2 := cell_regrown d2
      have kd3 := cell_regrown d3
      clear hc0 hc1 hc2 hc3 hc4 hc5 hc6 hc7 hc8 hc9 hc10 hc11 hc12 he0 he1 he2 he3 d0 d1 d2 d3
      refine wp_region_quiet_below (by kernel_rfl) (by kernel_rfl) ?_
      repeat (quiet_step ((go_at_call 40; exact Q1.out _ _)))
      refine wpQuiet_nil ?_
      intro _ hw'
      obtain ⟨⟨dq, osq⟩, hw''⟩ := hw'
      subst hw''
      have Y2 := Y.below (below_regrown wr dq osq)
      go_wp2_with fail
      go_roundw
      case rel => exact ⟨i + 1, t, by omega, by go_num, rfl, HT, htb.1, htb.2, Y2⟩
      case measure => simp [intOf]; omega
    · obtain rfl : i = e.ks.length := by omega
      have HR : Hid (z = e.sum c.opC) := Lib.hid (by rw [HS.out, hz.out, List.take_length])
      have b2 := Y.bel
      go_wp2_with fail
      go_ret
      exact ⟨ret_int HR.out, b2⟩

set_option maxRecDepth 100000 in
theorem risPlace15_any (e : E) (w : World) : Calls Tryz.prog 48 #[e.val] w fun r w' => r = .returned (.bool e.place) ∧ Below w.heap.size w w' := by
  obtain ⟨z, hz⟩ : ∃ z, Hid (z = e.place) := ⟨_, Lib.hid rfl⟩
  rw [← hz.out]
  have HZ : Hid (z = true ↔ (e.op = 3 ∨ e.op = 4 ∨ e.op = 5)) := Lib.hid (by rw [hz.out]; unfold E.place; simp only [Bool.and_eq_true, decide_eq_true_eq]; omega)
  clear hz
  by_cases h3 : e.op = 3
  · have q3 : (e.op == 3) = true := by rw [h3]; rfl
    obtain rfl : z = true := HZ.out.2 (by omega)
    clear h3
    go_enter Tryz.func48, Tryz.ntmps48
    go_wp2_with fail
    go_ret
    exact ⟨rfl, al1 _ _⟩
  have q3 : (e.op == 3) = false := by simpa using h3
  by_cases h4 : e.op = 4
  · have q4 : (e.op == 4) = true := by rw [h4]; rfl
    obtain rfl : z = true := HZ.out.2 (by omega)
    clear h4 h3
    go_enter Tryz.func48, Tryz.ntmps48
    go_wp2_with fail
    go_ret
    exact ⟨rfl, al1 _ _⟩
  have q4 : (e.op == 4) = false := by simpa using h4
  by_cases h5 : e.op = 5
  · have q5 : (e.op == 5) = true := by rw [h5]; rfl
    obtain rfl : z = true := HZ.out.2 (by omega)
    clear h5 h4 h3
    go_enter Tryz.func48, Tryz.ntmps48
    go_wp2_with fail
    go_ret
    exact ⟨rfl, al1 _ _⟩
  · have q5 : (e.op == 5) = false := by simpa using h5
    obtain rfl : z = false := by
      cases z with
      | false => rfl
      | true => have := HZ.out.1 rfl; omega
    clear h5 h4 h3
    go_enter Tryz.func48, Tryz.ntmps48
    go_wp2_with fail
    go_ret
    exact ⟨rfl, al1 _ _⟩

set_option maxRecDepth 100000 in
set_option maxHeartbeats 1000000 in
theorem counts_any (zs : List Int) (A : Option Addr) (c : Nat) (w : World) (h : Zs w w.heap.size A zs) (hl : zs.length ≤ 1000000) : Calls Tryz.prog 39 #[.slice A zs.length c] w fun r w' => r = .returned (.int .i64 (scC zs)) ∧ w = w' := by
  go_enter Tryz.func39, Tryz.ntmps39
  go_wp2_with fail
  go_loop [3] (fun iv => ∃ i : Nat, i ≤ zs.length ∧ iv = .int .i64 i ∧ Hid (∀ j, (hj : j < zs.length) → j < i → 0 ≤ zs[j] ∧ zs[j] ≤ 32)) (fun iv => zs.length - (intOf iv).toNat)
  case atStart => exact ⟨0, Nat.zero_le _, rfl, Lib.hid (fun j hj h => absurd h (Nat.not_lt_zero _))⟩
  case round =>
    obtain ⟨i, hi, rfl, hz⟩ := hrel
    by_cases hlt : i < zs.length
    · obtain ⟨b, off, x, rfl, hb, c0, hx⟩ := h.at_ hlt
      have HBAD : Hid (x < 0 ∨ 32 < x → scC zs = 3) := Lib.hid (fun hq => by
        unfold scC
        rw [if_neg]
        intro hk
        obtain ⟨_, e2⟩ := hx.out
        have := List.all_eq_true.1 hk x (by rw [← e2]; exact List.getElem_mem _)
        simp at this
        omega)
      by_cases h1 : x < 0
      · have HR := Lib.hid (HBAD.out (.inl h1))
        clear HBAD
        go_wp2_with fail
        go_ret
        exact ⟨ret_int HR.out.symm, rfl⟩
      · by_cases h2 : 32 < x
        · have HR := Lib.hid (HBAD.out (.inr h2))
          clear HBAD
          go_wp2_with fail
          go_ret
          exact ⟨ret_int HR.out.symm, rfl⟩
        · have HN : Hid (∀ j, (hj : j < zs.length) → j < i + 1 → 0 ≤ zs[j] ∧ zs[j] ≤ 32) := Lib.hid (fun j hj h => by
            by_cases e : j = i
            · subst e; obtain ⟨_, e2⟩ := hx.out; rw [e2]; omega
            · exact hz.out j hj (by omega))
          clear HBAD hz
          go_wp2_with fail
          go_round
          case rel => exact ⟨i + 1, by omega, by go_num, HN⟩
          case measure => simp [intOf]; omega
    · obtain rfl : i = zs.length := by omega
      have HR : Hid (scC zs = 0) := Lib.hid (by
        unfold scC
        rw [if_pos]
        rw [List.all_eq_true]
        intro x hx
        obtain ⟨j, hj, rfl⟩ := List.mem_iff_getElem.1 hx
        have := hz.out j hj hj
        simpa using this)
      go_wp2_with fail
      go_ret
      exact ⟨ret_int HR.out.symm, rfl⟩

/-- a new list of numbers -/
def NewZs (zs : List Int) (w : World) (r : Ending) (w' : World) : Prop := ∃ (A : Option Addr) (c : Nat), r = .returned (.slice A zs.length c) ∧ Zs w' w'.heap.size A zs ∧ Below w.heap.size w w'
set_option maxRecDepth 100000 in
set_option maxHeartbeats 1000000 in
theorem rlist_any (c : C) (w : World) : Calls Tryz.prog 54 #[c.val] w (NewZs c.list w) := by
  go_enter Tryz.func54, Tryz.ntmps54
  go_wp2_with fail
  go_ret
  refine ⟨some ⟨w.heap.size + 1, 0, none⟩, 13, rfl, ?_, (al1 w _).alloc (by simp) _⟩
  have := Zs.new_ (w.alloc (.cells c.box 23)) c.list 3 c.box rfl
  rwa [World.size_alloc w] at this
set_option maxRecDepth 100000 in
set_option maxHeartbeats 1000000 in
theorem rcheck_any (c : C) (w : World) : Calls Tryz.prog 46 #[c.val] w fun r w' => r = .returned (.int .i64 c.code) ∧ Below w.heap.size w w' := by
  go_enter Tryz.func46, Tryz.ntmps46
  go_wp2_with fail
  refine (rlist_any c _).mono ?_
  rintro r w1 ⟨A, cp, rfl, hZ, b1⟩
  have b2 := bTrans (al1 w _) b1
  have hlen : c.list.length = 13 := rfl
  obtain ⟨zs, hzs⟩ : ∃ zs, Hid (c.list = zs) := ⟨_, Lib.hid rfl⟩
  rw [hzs.out] at hZ hlen ⊢
  have HC : Hid (c.code = if zs.all (fun x => decide (0 ≤ x) && decide (x ≤ 100)) then 0 else 3) := Lib.hid (by rw [← hzs.out]; rfl)
  have hlen2 : zs.length ≤ 1000000 := by omega
  clear b1 hlen
  go_wp2_with fail
  go_loop [4] (fun iv => ∃ i : Nat, i ≤ zs.length ∧ iv = .int .i64 i ∧ Hid (∀ j, (hj : j < zs.length) → j < i → 0 ≤ zs[j] ∧ zs[j] ≤ 100)) (fun iv => zs.length - (intOf iv).toNat)
  case atStart => exact ⟨0, Nat.zero_le _, rfl, Lib.hid (fun j hj h => absurd h (Nat.not_lt_zero _))⟩
  case round =>
    obtain ⟨i, hi, rfl, hz⟩ := hrel
    by_cases hlt : i < zs.length
    · obtain ⟨b, off, x, rfl, hb, c0, hx⟩ := hZ.at_ hlt
      have HBAD : Hid (x < 0 ∨ 100 < x → c.code = 3) := Lib.hid (fun hq => by
        rw [HC.out, if_neg]
        intro hk
        obtain ⟨_, e2⟩ := hx.out
        have := List.all_eq_true.1 hk x (by rw [← e2]; exact List.getElem_mem _)
        simp at this
        omega)
      by_cases h1 : x < 0
      · have HR := Lib.hid (HBAD.out (.inl h1))
        clear HBAD
        go_wp2_with fail
        go_ret
        exact ⟨ret_int HR.out.symm, b2⟩
      · by_cases h2 : 100 < x
        · have HR := Lib.hid (HBAD.out (.inr h2))
          clear HBAD
          go_wp2_with fail
          go_ret
          exact ⟨ret_int HR.out.symm, b2⟩
        · have HN : Hid (∀ j, (hj : j < zs.length) → j < i + 1 → 0 ≤ zs[j] ∧ zs[j] ≤ 100) := Lib.hid (fun j hj h => by
            by_cases e : j = i
            · subst e; obtain ⟨_, e2⟩ := hx.out; rw [e2]; omega
            · exact hz.out j hj (by omega))
          clear HBAD hz
          go_wp2_with fail
          go_round
          case rel => exact ⟨i + 1, by omega, by go_num, HN⟩
          case measure => simp [intOf]; omega
    · obtain rfl : i = zs.length := by omega
      have HR : Hid (c.code = 0) := Lib.hid (by
        rw [HC.out, if_pos]
        rw [List.all_eq_true]
        intro x hx
        obtain ⟨j, hj, rfl⟩ := List.mem_iff_getElem.1 hx
        have := hz.out j hj hj
        simpa using this)
      go_wp2_with fail
      go_ret
      exact ⟨ret_int HR.out.symm, b2⟩
end Go.Proofs.YtkpomjdablopaabGreatDoor
