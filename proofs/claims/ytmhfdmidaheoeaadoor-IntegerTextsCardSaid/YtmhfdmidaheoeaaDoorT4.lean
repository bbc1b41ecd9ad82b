/- Walks: decimalGroups. -/
import Derived.Test.YtmhfdmidaheoeaaDoorT3
namespace Go.Proofs.YtmhfdmidaheoeaaDoor
open Go.RowKit
set_option linter.unusedVariables false

theorem div64_lit (hi lo Q R : Nat) (h : hi < 10000000000000000000) (hlo : lo < 18446744073709551616) (hQ : Q = (hi * 18446744073709551616 + lo) / 10000000000000000000) (hR : R = (hi * 18446744073709551616 + lo) % 10000000000000000000) (w : World) :
    Calls Tryd.prog 74 #[.int .u64 (hi : Int), .int .u64 (lo : Int), .int .u64 10000000000000000000] w fun e w' => e = .returned (.tuple #[.int .u64 (Q : Int), .int .u64 (R : Int)]) ∧ ∃ q, w' = w.drewN q :=
  div64_any hi lo 10000000000000000000 Q R (Lib.hid rfl) h (Lib.hid hlo) (Lib.hid hQ) (Lib.hid hR) w

def u64s (l : List Nat) : List Value := l.map fun (x : Nat) => Value.int .u64 (x : Int)
theorem u64s_len (l : List Nat) : (u64s l).length = l.length := by unfold u64s; rw [List.length_map]
theorem u64s_snoc (l : List Nat) (x : Nat) : u64s (l ++ [x]) = u64s l ++ [.int .u64 (x : Int)] := by unfold u64s; rw [List.map_append]; rfl
theorem own_below {w w' : World} {base e n : Nat} {v : Value} {xs : List Value} (h : w.ownsRow base e 1 v n xs) (hb : Below w.heap.size w w') : w'.ownsRow base e 1 v n xs :=
  h.kept (row := none) ⟨hb.os, hb.tape, hb.output, hb.size, fun k hk _ => hb.block k hk⟩ (by cases hv : v.ownBlock <;> simp)

/-- the groups' world: the pairs' block and the groups' row -/
structure GrInv (w wr : World) (N n : Nat) (ps : List Nat) (gv : Value) (gs : List Nat) : Prop where
  fl : Fill6 w wr w.heap.size N ps
  own : wr.ownsRow (w.heap.size + 1) 48 1 gv gs.length (u64s gs)
  hz : w.heap.size + 1 ≤ wr.heap.size
theorem GrInv.drewN {w wr : World} {N n : Nat} {ps : List Nat} {gv : Value} {gs : List Nat} (h : GrInv w wr N n ps gv gs) (q : Nat) : GrInv w (wr.drewN q) N n ps gv gs := ⟨h.fl.drewN q, h.own, h.hz⟩
theorem own_ge {w : World} {base e n : Nat} {v : Value} {xs : List Value} (h : w.ownsRow base e 1 v n xs) : ∀ k, v.ownBlock = some k → base ≤ k := fun k e => (h.lt k e).1
theorem GrInv.put {w wr : World} {N n : Nat} {ps : List Nat} {gv : Value} {gs : List Nat} (h : GrInv w wr N n ps gv gs) (k : Nat) (hk : k < N) {x : Nat} (hx : x < 18446744073709551616) : GrInv w (wr.setCell ⟨w.heap.size, k, none⟩ (.int .u64 (x : Int))) N n (ps.set k x) gv gs :=
  ⟨h.fl.put k hk hx, by
    refine ⟨h.own.1, ?_⟩
    rcases h.own.2 with h2 | ⟨g, cap, cur, hv, hb, hg, r⟩
    · exact .inl h2
    · exact .inr ⟨g, cap, cur, hv, hb, (Below.heap_setCell wr ⟨w.heap.size, k, none⟩ _ g (by simp; omega)).trans hg, r⟩,
   Nat.le_trans h.hz (by simp [World.setCell])⟩

/-- one digit more -/
theorem GrInv.grown {w wr w3 : World} {N n : Nat} {ps : List Nat} {gv gv' : Value} {gs : List Nat} {x : Nat} {o : Obj} (h : GrInv w wr N n ps gv gs)
    (ho : w3.ownsRow (w.heap.size + 1) 48 1 gv' (gs.length + 1) (u64s gs ++ [.int .u64 (x : Int)])) (hg : (wr.alloc o).grownBy w3 gv.ownBlock) : GrInv w w3 N n ps gv' (gs ++ [x]) := by
  have hge := own_ge h.own
  have hz := h.hz
  refine ⟨⟨?_, h.fl.len, h.fl.wd, ?_, h.fl.hg⟩, ?_, ?_⟩
  · have hlt := h.fl.row.lt
    exact (hg.block w.heap.size (by simp; omega) (fun e => by have := hge _ e.symm; omega)).trans (h.fl.row.alloc o)
  · exact (h.fl.bel.alloc (by omega) o).grown hg (by simp; omega) (fun k e => by have := hge k e; omega)
  · rw [List.length_append, u64s_snoc]; exact ho
  · have := hg.size; simp at this; omega

/-- what the groups say -/
def GrS (T n : Nat) (ps gs : List Nat) : Prop :=
  T = Kn.vb 10000000000000000000 gs + 10000000000000000000 ^ gs.length * Kn.vb 18446744073709551616 (ps.take n) ∧ (∀ x ∈ gs, x < 10000000000000000000) ∧ (n = 0 ∨ ps.getD (n - 1) 0 ≠ 0) ∧ (n = 0 → gs.length = 0 ∨ gs.getD (gs.length - 1) 0 ≠ 0)
theorem GrS.lt {T n N K : Nat} {ps gs : List Nat} (h : GrS T n ps gs) (hK : T < 10000000000000000000 ^ K) (hl : ps.length = N) (hn : 0 < n) (hnN : n ≤ N) : gs.length < K ∧ 0 < Kn.vb 18446744073709551616 (ps.take n) := by
  obtain ⟨h1, _, h3, _⟩ := h
  have hp : 0 < Kn.vb 18446744073709551616 (ps.take n) := by
    rcases h3 with h3 | h3
    · omega
    · have := Kn.vb_pos (b := 18446744073709551616) (by decide) ps (k := n - 1) (by omega) h3
      rwa [Nat.sub_add_cancel hn] at this
  have h5 : 10000000000000000000 ^ gs.length * 1 ≤ 10000000000000000000 ^ gs.length * Kn.vb 18446744073709551616 (ps.take n) := Nat.mul_le_mul_left _ hp
  refine ⟨?_, hp⟩
  rw [← Nat.not_le]
  intro hc
  have h6 : 10000000000000000000 ^ K ≤ 10000000000000000000 ^ gs.length := Nat.pow_le_pow_right (by decide) hc
  omega
theorem GrS.next {T n m : Nat} {ps us gs : List Nat} {rest : Nat} (h : GrS T n ps gs) (hp : 0 < Kn.vb 18446744073709551616 (ps.take n)) (hr : rest < 10000000000000000000)
    (hv : Kn.vb 18446744073709551616 (ps.take n) = 10000000000000000000 * Kn.vb 18446744073709551616 (us.take n) + rest) (hm : Kn.vb 18446744073709551616 (us.take m) = Kn.vb 18446744073709551616 (us.take n)) (ht : m = 0 ∨ us.getD (m - 1) 0 ≠ 0) :
    GrS T m us (gs ++ [rest]) := by
  obtain ⟨h1, h2, h3, h4⟩ := h
  refine ⟨?_, fun x hx => ?_, ht, fun h0 => Or.inr ?_⟩
  · have e : Kn.vb 10000000000000000000 [rest] = rest := by simp [Kn.vb]
    rw [Kn.vb_append, e, List.length_append, hm, h1, hv]
    show _ = _ + 10000000000000000000 ^ (gs.length + 1) * _
    rw [Nat.pow_succ, Nat.mul_add, Nat.mul_assoc]
    omega
  · rcases List.mem_append.1 hx with hx | hx
    · exact h2 x hx
    · rw [List.mem_singleton.1 hx]; exact hr
  · subst h0
    have e0 : Kn.vb 18446744073709551616 (us.take n) = 0 := by rw [← hm]; rfl
    rw [e0] at hv
    rw [List.length_append, List.getD_eq_getElem?_getD]
    simp
    omega

theorem GrS.start {T n m : Nat} {ps : List Nat} (hn : ps.length = n) (hT : T = Kn.vb 18446744073709551616 ps) (hm : Kn.vb 18446744073709551616 (ps.take m) = Kn.vb 18446744073709551616 (ps.take n)) (ht : m = 0 ∨ ps.getD (m - 1) 0 ≠ 0) : GrS T m ps [] := by
  refine ⟨?_, (fun x h => by cases h), ht, fun _ => Or.inl rfl⟩
  rw [hm, List.take_of_length_le (by omega), hT]
  simp [Kn.vb]

/-- a division's world in the inner loop -/
def InS (n k : Nat) (ps us : List Nat) (rest : Nat) : Prop :=
  Kn.vb 18446744073709551616 ((ps.take n).drop k) = 10000000000000000000 * Kn.vb 18446744073709551616 ((us.take n).drop k) + rest ∧ (∀ t, t < k → us.getD t 0 = ps.getD t 0) ∧ us.length = ps.length
theorem take_getD (l : List Nat) {n k : Nat} (h : k < n) : (l.take n).getD k 0 = l.getD k 0 := by
  rw [List.getD_eq_getElem?_getD, List.getElem?_take_of_lt h, ← List.getD_eq_getElem?_getD]
theorem InS.step {n k N : Nat} {ps us : List Nat} {rest q r : Nat} (h : InS n (k + 1) ps us rest) (hk : k < n) (hl : ps.length = N) (hn : n ≤ N)
    (hq : q = (rest * 18446744073709551616 + us.getD k 0) / 10000000000000000000) (hr : r = (rest * 18446744073709551616 + us.getD k 0) % 10000000000000000000) : InS n k ps (us.set k q) r := by
  obtain ⟨h1, h2, h3⟩ := h
  have hul : k < us.length := by omega
  refine ⟨?_, fun t ht => by rw [Kn.getD_set _ _ _ _ hul, if_neg (by omega)]; exact h2 t (by omega), by rw [List.length_set]; exact h3⟩
  have e2 : (us.set k q).take n = (us.take n).set k q := by rw [List.take_set]
  rw [e2, Kn.vb_drop _ (ps.take n) (by rw [List.length_take]; omega), Kn.vb_drop _ ((us.take n).set k q) (by rw [List.length_set, List.length_take]; omega), Kn.drop_set _ _ (by omega), take_getD _ hk,
    Kn.getD_set _ _ _ _ (by rw [List.length_take]; omega), if_pos rfl]
  exact Kn.div_step h1 hq hr (by rw [h2 k (by omega)])

/-- the groups of a number -/
def GrE (T : Nat) (gs : List Nat) : Prop := Kn.vb 10000000000000000000 gs = T ∧ (∀ x ∈ gs, x < 10000000000000000000) ∧ (gs.length = 0 ∨ gs.getD (gs.length - 1) 0 ≠ 0)

set_option maxRecDepth 100000 in
set_option maxHeartbeats 2000000 in
theorem decimalGroups_any (A : Option Addr) (c : Nat) (ws : List Nat) (w : World) (h : Sl w w.heap.size A c ws) (hl : ws.length ≤ 100000000) (T : Nat) (hT : Hid (T = Kn.val ws)) :
    Calls Tryd.prog 45 #[.slice A ws.length c] w fun e w' => ∃ A' c' gs, e = .returned (.slice A' gs.length c') ∧ w'.ownsRow (w.heap.size + 1) 48 1 (.slice A' gs.length c') gs.length (u64s gs) ∧ Below w.heap.size w w' ∧
      GrE T gs ∧ gs.length ≤ ws.length := by
  obtain ⟨i0, hi, hz0, hz1, hz2⟩ := info_parts infoU64
  have hK : Hid (T < 10000000000000000000 ^ ws.length) := Lib.hid (by
    have h1 := Kn.val_lt h.wd
    have h2 : Kn.pw ws.length ≤ 10000000000000000000 ^ ws.length := Nat.pow_le_pow_left (by decide) _
    rw [hT.out]; omega)
  go_enter Tryd.func45, Tryd.ntmps45
  go_wp2_with fail
  refine (pairUp_any A c ws w h hl).mono ?_
  rintro e w1 ⟨n, ps, rfl, F, hV, hn⟩
  have HV := Lib.hid hV
  clear hV
  go_wp2_with fail
  refine (trimPairs_any w.heap.size n n n ps w w1 F (Nat.le_refl _) (Nat.le_refl _) hn).mono ?_
  rintro e w' ⟨m, hm, rfl, rfl, hm2, hm3⟩
  have S0 : Hid (GrS T m ps []) := Lib.hid (GrS.start F.len (by rw [hT.out, HV.out]) hm2 hm3)
  clear hm2 hm3
  have I0 : GrInv w w1 n n ps (.slice none 0 0) [] := ⟨F, ⟨rfl, .inl ⟨rfl, rfl⟩⟩, by have := F.row.lt; omega⟩
  go_wp2_with fail
  go_loopw [3, 4] (fun pv gv wr => ∃ m ps gs, m ≤ n ∧ pv = .slice (some ⟨w.heap.size, 0, none⟩) m n ∧ GrInv w wr n n ps gv gs ∧ gs.length ≤ ws.length ∧ Hid (GrS T m ps gs)) (fun _ gv _ => ws.length - (match gv with | .slice _ k _ => k | _ => 0))
  case atStart => exact ⟨m, ps, [], hm, rfl, I0, Nat.zero_le _, S0⟩
  case round =>
    clear S0 I0 F HV hm
    obtain ⟨m', us, gs, hm, rfl, I, hgl, S⟩ := hrel
    by_cases hm0 : m' = 0
    · have HM := Lib.hid hm0
      subst hm0
      have HF : GrE T gs := (by
        obtain ⟨s1, s2, _, s4⟩ := S.out
        refine ⟨?_, s2, s4 rfl⟩
        rw [s1]; simp [Kn.vb])
      go_wp2_with fail
      go_ret
      obtain ⟨A', c', hv, _⟩ := own_slice I.own
      refine ⟨A', c', gs, ?_, ?_, I.fl.bel, HF, hgl⟩
      · show Ending.returned _ = _
        rw [← hv]; rfl
      · have ho := I.own
        rw [hv] at ho
        exact ho
    · have hmp : 0 < m' := by omega
      have hL := Lib.hid (S.out.lt hK.out I.fl.len hmp hm)
      have hgk : gs.length < ws.length := hL.out.1
      have e2 : (0 : Int) ≤ (m' : Int) - 1 := by omega
      clear hm0
      obtain ⟨A', c', hv, _⟩ := own_slice I.own
      subst hv
      go_wp2_with fail
      obtain ⟨wo, rfl⟩ : ∃ wo : World, wo = wr := ⟨_, rfl⟩
      go_loopw [5, 6] (fun rv iv wi => ∃ k rest vs, k ≤ m' ∧ iv = .int .i64 ((k : Int) - 1) ∧ rv = .int .u64 (rest : Nat) ∧ rest < 10000000000000000000 ∧ GrInv w wi n n vs (.slice A' gs.length c') gs ∧ Hid (InS m' k us vs rest)) (fun _ iv _ => (intOf iv + 1).toNat)
      case atStart => exact ⟨m', 0, us, Nat.le_refl _, rfl, rfl, by decide, I, Lib.hid ⟨by rw [List.drop_of_length_le (by rw [List.length_take]; omega)]; simp [Kn.vb], fun _ _ => rfl, rfl⟩⟩
      case round =>
        obtain ⟨k, rest, vs, hk, rfl, rfl, hrest, J, HJ⟩ := hrel
        by_cases hk0 : k = 0
        · have HK := Lib.hid hk0
          subst hk0
          have hJ0 := HJ.out
          have HJ1 : Hid (Kn.vb 18446744073709551616 (us.take m') = 10000000000000000000 * Kn.vb 18446744073709551616 (vs.take m') + rest) := Lib.hid (by have := hJ0.1; rwa [List.drop_zero, List.drop_zero] at this)
          clear hJ0
          go_wp2_with (at_builtin; refine wpList_append_own _ rfl _ _ 57 rfl (w.heap.size + 1) 48 i0 (.int .u64 0) 1 8 Tryd.underlying57 hi hz0 hz1 hz2 rfl (by decide) _ _ _ rfl (J.own.alloc _) ⟨_, 0, none⟩ 1 1 [.int .u64 (rest : Int)] rfl rfl ?c1 ?c2 ?c3 ?c4 ?c5 ?_)
          case c2 => first | rfl | (intro u hu; simp at hu; subst hu; rfl)
          case c3 => unfold maxLen; omega
          case c4 => omega
          case c5 => have := J.hz; simp; omega
          intro v' w3 hown' hgrow _
          have J2 := J.grown (x := rest) hown' hgrow
          obtain ⟨A2, c2, hv2, _⟩ := own_slice hown'
          subst hv2
          clear hown' hgrow
          go_wp2_with fail
          refine (trimPairs_any w.heap.size n m' n vs w w3 J2.fl hm hm hn).mono ?_
          rintro e w' ⟨m2, hmm, rfl, rfl, hm2, hm3⟩
          have S2 : Hid (GrS T m2 vs (gs ++ [rest])) := Lib.hid (S.out.next hL.out.2 hrest HJ1.out hm2 hm3)
          clear hm2 hm3
          have hgl2 : (gs ++ [rest]).length ≤ ws.length := by rw [List.length_append]; simp; omega
          go_wp2_with fail
          go_roundw
          case rel => exact ⟨m2, vs, gs ++ [rest], by omega, rfl, by simpa using J2, hgl2, S2⟩
          case measure => simp; omega
        · have hk1 : 0 < k := by omega
          have hlen := J.fl.len
          have hcell := J.fl.row.cell (k := k - 1) (by omega)
          have hfg := J.fl.row.frozen (k - 1)
          obtain ⟨p, hp⟩ : ∃ p, Hid (p = vs.getD (k - 1) 0) := ⟨_, Lib.hid rfl⟩
          have hpl : Hid (p < 18446744073709551616) := Lib.hid (by rw [hp.out]; exact J.fl.wd _)
          rw [← hp.out] at hcell
          have e1 : ((k : Int) - 1).toNat = k - 1 := by omega
          have e3 : (0 : Int) ≤ (k : Int) - 1 := by omega
          obtain ⟨Q, hQ⟩ : ∃ Q : Nat, Hid (Q = (rest * 18446744073709551616 + p) / 10000000000000000000) := ⟨_, Lib.hid rfl⟩
          obtain ⟨R, hR⟩ : ∃ R : Nat, Hid (R = (rest * 18446744073709551616 + p) % 10000000000000000000) := ⟨_, Lib.hid rfl⟩
          have hRl : R < 10000000000000000000 := by rw [hR.out]; exact Nat.mod_lt _ (by decide)
          have hQl : Q < 18446744073709551616 := by rw [hQ.out]; have := hpl.out; omega
          have HJ2 : Hid (InS m' (k - 1) us (vs.set (k - 1) Q) R) := Lib.hid (by
            have hJ := HJ.out
            rw [← Nat.sub_add_cancel hk1] at hJ
            have hul : us.length = n := by rw [← hJ.2.2]; exact J.fl.len
            exact hJ.step (by omega) hul hm (by rw [← hp.out]; exact hQ.out) (by rw [← hp.out]; exact hR.out))
          have HL := Lib.hid hlen
          clear hk0 hlen
          go_wp2_with fail
          refine (div64_lit rest p Q R hrest hpl.out hQ.out hR.out _).mono ?_
          rintro e w' ⟨rfl, q, rfl⟩
          have J2 := (J.drewN q).put (k - 1) (by omega) hQl
          go_wp2_with fail
          go_roundw
          case rel => exact ⟨k - 1, R, _, by omega, by go_num, rfl, hRl, J2, HJ2⟩
          case measure => simp [intOf]; omega
end Go.Proofs.YtmhfdmidaheoeaaDoor
