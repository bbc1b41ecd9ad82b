/- My texts, packed: T4, T5, Wk, Lw, LawRow, Rq, Wm. -/
import Derived.Test.YtkpomjdablopaaaGreatDoorZ4
import Derived.Test.YtkpomjdablopaaaGreatDoorZ2
import Derived.Test.YtkpomjdablopaaaGreatDoorZ3
import Derived.Test.YtkpomjdablopaaaGreatDoorCards
import Derived.Test.YtkpomjdablopaaaGreatDoorTie
import Derived.ProofKit
import Derived.OpenShut
import Derived.Deep.DeepHandedRow
import Derived.Lib.LaidTab
import Derived.Lib.SmallJoins
import Derived.Stop.LaidErr
import Derived.Deep.RegionHeld3
import Derived.Deep.RegionLawGrows
/- Walks: decimalGroups. -/
namespace Go.Proofs.YtkpomjdablopaaaGreatDoor
open Go.RowKit
set_option linter.unusedVariables false

theorem div64_lit (hi lo Q R : Nat) (h : hi < 10000000000000000000) (hlo : lo < 18446744073709551616) (hQ : Q = (hi * 18446744073709551616 + lo) / 10000000000000000000) (hR : R = (hi * 18446744073709551616 + lo) % 10000000000000000000) (w : World) :
    Calls Tryz.prog 91 #[.int .u64 (hi : Int), .int .u64 (lo : Int), .int .u64 10000000000000000000] w fun e w' => e = .returned (.tuple #[.int .u64 (Q : Int), .int .u64 (R : Int)]) ∧ ∃ q, w' = w.drewN q :=
  div64_any hi lo 10000000000000000000 Q R (Lib.hid rfl) h (Lib.hid hlo) (Lib.hid hQ) (Lib.hid hR) w

def u64s (l : List Nat) : List Value := l.map fun (x : Nat) => Value.int .u64 (x : Int)
theorem u64s_len (l : List Nat) : (u64s l).length = l.length := by unfold u64s; rw [List.length_map]
theorem u64s_snoc (l : List Nat) (x : Nat) : u64s (l ++ [x]) = u64s l ++ [.int .u64 (x : Int)] := by unfold u64s; rw [List.map_append]; rfl
theorem own_below {w w' : World} {base e n : Nat} {v : Value} {xs : List Value} (h : w.ownsRow base e 1 v n xs) (hb : Below w.heap.size w w') : w'.ownsRow base e 1 v n xs :=
  h.kept (row := none) ⟨hb.os, hb.tape, hb.output, hb.size, fun k hk _ => hb.block k hk⟩ (by cases hv : v.ownBlock <;> simp)

/-- the groups' world: the pairs' block and the groups' row -/
structure GrInv (w wr : World) (N n : Nat) (ps : List Nat) (gv : Value) (gs : List Nat) : Prop where
  fl : Fill6 w wr w.heap.size N ps
  own : wr.ownsRow (w.heap.size + 1) 82 1 gv gs.length (u64s gs)
  hz : w.heap.size + 1 ≤ wr.heap.size
theorem GrInv.drewN {w wr : World} {N n : Nat} {ps : List Nat} {gv : Value} {gs : List Nat} (h : GrInv w wr N n ps gv gs) (q : Nat) : GrInv w (wr.drewN q) N n ps gv gs := ⟨h.fl.drewN q, h.own, h.hz⟩
theorem own_ge {w : World} {base e n : Nat} {v : Value} {xs : List Value} (h : w.ownsRow base e 1 v n xs) : ∀ k, v.ownBlock = some k → base ≤ k := fun k e => (h.lt k e).1
theorem GrInv.put {w wr : World} {N n : Nat} {ps : List Nat} {gv : Value} {gs : List Nat} (h : GrInv w wr N n ps gv gs) (k : Nat) (hk : k < N) {x : Nat} (hx : x < 18446744073709551616) : GrInv w (wr.setCell ⟨w.heap.size, k, none⟩ (.int .u64 (x : Int))) N n (ps.set k x) gv gs :=
  ⟨h.fl.put k hk hx, by
    refine ⟨h.own.1, ?_⟩
    rcases h.own.2 with h2 | ⟨g, cap, cur, hv, hb, hg, r⟩
    · exact .inl h2
    · exact .inr ⟨g, cap, cur, hv, hb, (Below.heap_setCell wr ⟨w.heap.size, k, none⟩ _ g (by simp; omega)).trans hg, r⟩,
   Nat.le_trans h.hz (by simp [World.setCell])⟩

/-- one digit more -/
theorem GrInv.grown {w wr w3 : World} {N n : Nat} {ps : List Nat} {gv gv' : Value} {gs : List Nat} {x : Nat} {o : Obj} (h : GrInv w wr N n ps gv gs)
    (ho : w3.ownsRow (w.heap.size + 1) 82 1 gv' (gs.length + 1) (u64s gs ++ [.int .u64 (x : Int)])) (hg : (wr.alloc o).grownBy w3 gv.ownBlock) : GrInv w w3 N n ps gv' (gs ++ [x]) := by
  have hge := own_ge h.own
  have hz := h.hz
  refine ⟨⟨?_, h.fl.len, h.fl.wd, ?_, h.fl.hg⟩, ?_, ?_⟩
  · have hlt := h.fl.row.lt
    exact (hg.block w.heap.size (by simp; omega) (fun e => by have := hge _ e.symm; omega)).trans (h.fl.row.alloc o)
  · exact (h.fl.bel.alloc (by omega) o).grown hg (by simp; omega) (fun k e => by have := hge k e; omega)
  · rw [List.length_append, u64s_snoc]; exact ho
  · have := hg.size; simp at this; omega

/-- what the groups say -/
def GrS (T n : Nat) (ps gs : List Nat) : Prop :=
  T = Kn.vb 10000000000000000000 gs + 10000000000000000000 ^ gs.length * Kn.vb 18446744073709551616 (ps.take n) ∧ (∀ x ∈ gs, x < 10000000000000000000) ∧ (n = 0 ∨ ps.getD (n - 1) 0 ≠ 0) ∧ (n = 0 → gs.length = 0 ∨ gs.getD (gs.length - 1) 0 ≠ 0)
theorem GrS.lt {T n N K : Nat} {ps gs : List Nat} (h : GrS T n ps gs) (hK : T < 10000000000000000000 ^ K) (hl : ps.length = N) (hn : 0 < n) (hnN : n ≤ N) : gs.length < K ∧ 0 < Kn.vb 18446744073709551616 (ps.take n) := by
  obtain ⟨h1, _, h3, _⟩ := h
  have hp : 0 < Kn.vb 18446744073709551616 (ps.take n) := by
    rcases h3 with h3 | h3
    · omega
    · have := Kn.vb_pos (b := 18446744073709551616) (by decide) ps (k := n - 1) (by omega) h3
      rwa [Nat.sub_add_cancel hn] at this
  have h5 : 10000000000000000000 ^ gs.length * 1 ≤ 10000000000000000000 ^ gs.length * Kn.vb 18446744073709551616 (ps.take n) := Nat.mul_le_mul_left _ hp
  refine ⟨?_, hp⟩
  rw [← Nat.not_le]
  intro hc
  have h6 : 10000000000000000000 ^ K ≤ 10000000000000000000 ^ gs.length := Nat.pow_le_pow_right (by decide) hc
  omega
theorem GrS.next {T n m : Nat} {ps us gs : List Nat} {rest : Nat} (h : GrS T n ps gs) (hp : 0 < Kn.vb 18446744073709551616 (ps.take n)) (hr : rest < 10000000000000000000)
    (hv : Kn.vb 18446744073709551616 (ps.take n) = 10000000000000000000 * Kn.vb 18446744073709551616 (us.take n) + rest) (hm : Kn.vb 18446744073709551616 (us.take m) = Kn.vb 18446744073709551616 (us.take n)) (ht : m = 0 ∨ us.getD (m - 1) 0 ≠ 0) :
    GrS T m us (gs ++ [rest]) := by
  obtain ⟨h1, h2, h3, h4⟩ := h
  refine ⟨?_, fun x hx => ?_, ht, fun h0 => Or.inr ?_⟩
  · have e : Kn.vb 10000000000000000000 [rest] = rest := by simp [Kn.vb]
    rw [Kn.vb_append, e, List.length_append, hm, h1, hv]
    show _ = _ + 10000000000000000000 ^ (gs.length + 1) * _
    rw [Nat.pow_succ, Nat.mul_add, Nat.mul_assoc]
    omega
  · rcases List.mem_append.1 hx with hx | hx
    · exact h2 x hx
    · rw [List.mem_singleton.1 hx]; exact hr
  · subst h0
    have e0 : Kn.vb 18446744073709551616 (us.take n) = 0 := by rw [← hm]; rfl
    rw [e0] at hv
    rw [List.length_append, List.getD_eq_getElem?_getD]
    simp
    omega

theorem GrS.start {T n m : Nat} {ps : List Nat} (hn : ps.length = n) (hT : T = Kn.vb 18446744073709551616 ps) (hm : Kn.vb 18446744073709551616 (ps.take m) = Kn.vb 18446744073709551616 (ps.take n)) (ht : m = 0 ∨ ps.getD (m - 1) 0 ≠ 0) : GrS T m ps [] := by
  refine ⟨?_, (fun x h => by cases h), ht, fun _ => Or.inl rfl⟩
  rw [hm, List.take_of_length_le (by omega), hT]
  simp [Kn.vb]

/-- a division's world in the inner loop -/
def InS (n k : Nat) (ps us : List Nat) (rest : Nat) : Prop :=
  Kn.vb 18446744073709551616 ((ps.take n).drop k) = 10000000000000000000 * Kn.vb 18446744073709551616 ((us.take n).drop k) + rest ∧ (∀ t, t < k → us.getD t 0 = ps.getD t 0) ∧ us.length = ps.length
theorem take_getD (l : List Nat) {n k : Nat} (h : k < n) : (l.take n).getD k 0 = l.getD k 0 := by
  rw [List.getD_eq_getElem?_getD, List.getElem?_take_of_lt h, ← List.getD_eq_getElem?_getD]
theorem InS.step {n k N : Nat} {ps us : List Nat} {rest q r : Nat} (h : InS n (k + 1) ps us rest) (hk : k < n) (hl : ps.length = N) (hn : n ≤ N)
    (hq : q = (rest * 18446744073709551616 + us.getD k 0) / 10000000000000000000) (hr : r = (rest * 18446744073709551616 + us.getD k 0) % 10000000000000000000) : InS n k ps (us.set k q) r := by
  obtain ⟨h1, h2, h3⟩ := h
  have hul : k < us.length := by omega
  refine ⟨?_, fun t ht => by rw [Kn.getD_set _ _ _ _ hul, if_neg (by omega)]; exact h2 t (by omega), by rw [List.length_set]; exact h3⟩
  have e2 : (us.set k q).take n = (us.take n).set k q := by rw [List.take_set]
  rw [e2, Kn.vb_drop _ (ps.take n) (by rw [List.length_take]; omega), Kn.vb_drop _ ((us.take n).set k q) (by rw [List.length_set, List.length_take]; omega), Kn.drop_set _ _ (by omega), take_getD _ hk,
    Kn.getD_set _ _ _ _ (by rw [List.length_take]; omega), if_pos rfl]
  exact Kn.div_step h1 hq hr (by rw [h2 k (by omega)])

/-- the groups of a number -/
def GrE (T : Nat) (gs : List Nat) : Prop := Kn.vb 10000000000000000000 gs = T ∧ (∀ x ∈ gs, x < 10000000000000000000) ∧ (gs.length = 0 ∨ gs.getD (gs.length - 1) 0 ≠ 0)

set_option maxRecDepth 100000 in
set_option maxHeartbeats 2000000 in
theorem decimalGroups_any (A : Option Addr) (c : Nat) (ws : List Nat) (w : World) (h : Sl w w.heap.size A c ws) (hl : ws.length ≤ 100000000) (T : Nat) (hT : Hid (T = Kn.val ws)) :
    Calls Tryz.prog 53 #[.slice A ws.length c] w fun e w' => ∃ A' c' gs, e = .returned (.slice A' gs.length c') ∧ w'.ownsRow (w.heap.size + 1) 82 1 (.slice A' gs.length c') gs.length (u64s gs) ∧ Below w.heap.size w w' ∧
      GrE T gs ∧ gs.length ≤ ws.length := by
  obtain ⟨i0, hi, hz0, hz1, hz2⟩ := info_parts infoU64
  have hK : Hid (T < 10000000000000000000 ^ ws.length) := Lib.hid (by
    have h1 := Kn.val_lt h.wd
    have h2 : Kn.pw ws.length ≤ 10000000000000000000 ^ ws.length := Nat.pow_le_pow_left (by decide) _
    rw [hT.out]; omega)
  go_enter Tryz.func53, Tryz.ntmps53
  go_wp2_with fail
  refine (pairUp_any A c ws w h hl).mono ?_
  rintro e w1 ⟨n, ps, rfl, F, hV, hn⟩
  have HV := Lib.hid hV
  clear hV
  go_wp2_with fail
  refine (trimPairs_any w.heap.size n n n ps w w1 F (Nat.le_refl _) (Nat.le_refl _) hn).mono ?_
  rintro e w' ⟨m, hm, rfl, rfl, hm2, hm3⟩
  have S0 : Hid (GrS T m ps []) := Lib.hid (GrS.start F.len (by rw [hT.out, HV.out]) hm2 hm3)
  clear hm2 hm3
  have I0 : GrInv w w1 n n ps (.slice none 0 0) [] := ⟨F, ⟨rfl, .inl ⟨rfl, rfl⟩⟩, by have := F.row.lt; omega⟩
  go_wp2_with fail
  go_loopw [3, 4] (fun pv gv wr => ∃ m ps gs, m ≤ n ∧ pv = .slice (some ⟨w.heap.size, 0, none⟩) m n ∧ GrInv w wr n n ps gv gs ∧ gs.length ≤ ws.length ∧ Hid (GrS T m ps gs)) (fun _ gv _ => ws.length - (match gv with | .slice _ k _ => k | _ => 0))
  case atStart => exact ⟨m, ps, [], hm, rfl, I0, Nat.zero_le _, S0⟩
  case round =>
    clear S0 I0 F HV hm
    obtain ⟨m', us, gs, hm, rfl, I, hgl, S⟩ := hrel
    by_cases hm0 : m' = 0
    · have HM := Lib.hid hm0
      subst hm0
      have HF : GrE T gs := (by
        obtain ⟨s1, s2, _, s4⟩ := S.out
        refine ⟨?_, s2, s4 rfl⟩
        rw [s1]; simp [Kn.vb])
      go_wp2_with fail
      go_ret
      obtain ⟨A', c', hv, _⟩ := own_slice I.own
      refine ⟨A', c', gs, ?_, ?_, I.fl.bel, HF, hgl⟩
      · show Ending.returned _ = _
        rw [← hv]; rfl
      · have ho := I.own
        rw [hv] at ho
        exact ho
    · have hmp : 0 < m' := by omega
      have hL := Lib.hid (S.out.lt hK.out I.fl.len hmp hm)
      have hgk : gs.length < ws.length := hL.out.1
      have e2 : (0 : Int) ≤ (m' : Int) - 1 := by omega
      clear hm0
      obtain ⟨A', c', hv, _⟩ := own_slice I.own
      subst hv
      go_wp2_with fail
      obtain ⟨wo, rfl⟩ : ∃ wo : World, wo = wr := ⟨_, rfl⟩
      go_loopw [5, 6] (fun rv iv wi => ∃ k rest vs, k ≤ m' ∧ iv = .int .i64 ((k : Int) - 1) ∧ rv = .int .u64 (rest : Nat) ∧ rest < 10000000000000000000 ∧ GrInv w wi n n vs (.slice A' gs.length c') gs ∧ Hid (InS m' k us vs rest)) (fun _ iv _ => (intOf iv + 1).toNat)
      case atStart => exact ⟨m', 0, us, Nat.le_refl _, rfl, rfl, by decide, I, Lib.hid ⟨by rw [List.drop_of_length_le (by rw [List.length_take]; omega)]; simp [Kn.vb], fun _ _ => rfl, rfl⟩⟩
      case round =>
        obtain ⟨k, rest, vs, hk, rfl, rfl, hrest, J, HJ⟩ := hrel
        by_cases hk0 : k = 0
        · have HK := Lib.hid hk0
          subst hk0
          have hJ0 := HJ.out
          have HJ1 : Hid (Kn.vb 18446744073709551616 (us.take m') = 10000000000000000000 * Kn.vb 18446744073709551616 (vs.take m') + rest) := Lib.hid (by have := hJ0.1; rwa [List.drop_zero, List.drop_zero] at this)
          clear hJ0
          go_wp2_with (at_builtin; refine wpList_append_own _ rfl _ _ 77 rfl (w.heap.size + 1) 82 i0 (.int .u64 0) 1 8 Tryz.underlying77 hi hz0 hz1 hz2 rfl (by decide) _ _ _ rfl (J.own.alloc _) ⟨_, 0, none⟩ 1 1 [.int .u64 (rest : Int)] rfl rfl ?c1 ?c2 ?c3 ?c4 ?c5 ?_)
          case c2 => first | rfl | (intro u hu; simp at hu; subst hu; rfl)
          case c3 => unfold maxLen; omega
          case c4 => omega
          case c5 => have := J.hz; simp; omega
          intro v' w3 hown' hgrow _
          have J2 := J.grown (x := rest) hown' hgrow
          obtain ⟨A2, c2, hv2, _⟩ := own_slice hown'
          subst hv2
          clear hown' hgrow
          go_wp2_with fail
          refine (trimPairs_any w.heap.size n m' n vs w w3 J2.fl hm hm hn).mono ?_
          rintro e w' ⟨m2, hmm, rfl, rfl, hm2, hm3⟩
          have S2 : Hid (GrS T m2 vs (gs ++ [rest])) := Lib.hid (S.out.next hL.out.2 hrest HJ1.out hm2 hm3)
          clear hm2 hm3
          have hgl2 : (gs ++ [rest]).length ≤ ws.length := by rw [List.length_append]; simp; omega
          go_wp2_with fail
          go_roundw
          case rel => exact ⟨m2, vs, gs ++ [rest], by omega, rfl, by simpa using J2, hgl2, S2⟩
          case measure => simp; omega
        · have hk1 : 0 < k := by omega
          have hlen := J.fl.len
          have hcell := J.fl.row.cell (k := k - 1) (by omega)
          have hfg := J.fl.row.frozen (k - 1)
          obtain ⟨p, hp⟩ : ∃ p, Hid (p = vs.getD (k - 1) 0) := ⟨_, Lib.hid rfl⟩
          have hpl : Hid (p < 18446744073709551616) := Lib.hid (by rw [hp.out]; exact J.fl.wd _)
          rw [← hp.out] at hcell
          have e1 : ((k : Int) - 1).toNat = k - 1 := by omega
          have e3 : (0 : Int) ≤ (k : Int) - 1 := by omega
          obtain ⟨Q, hQ⟩ : ∃ Q : Nat, Hid (Q = (rest * 18446744073709551616 + p) / 10000000000000000000) := ⟨_, Lib.hid rfl⟩
          obtain ⟨R, hR⟩ : ∃ R : Nat, Hid (R = (rest * 18446744073709551616 + p) % 10000000000000000000) := ⟨_, Lib.hid rfl⟩
          have hRl : R < 10000000000000000000 := by rw [hR.out]; exact Nat.mod_lt _ (by decide)
          have hQl : Q < 18446744073709551616 := by rw [hQ.out]; have := hpl.out; omega
          have HJ2 : Hid (InS m' (k - 1) us (vs.set (k - 1) Q) R) := Lib.hid (by
            have hJ := HJ.out
            rw [← Nat.sub_add_cancel hk1] at hJ
            have hul : us.length = n := by rw [← hJ.2.2]; exact J.fl.len
            exact hJ.step (by omega) hul hm (by rw [← hp.out]; exact hQ.out) (by rw [← hp.out]; exact hR.out))
          have HL := Lib.hid hlen
          clear hk0 hlen
          go_wp2_with fail
          refine (div64_lit rest p Q R hrest hpl.out hQ.out hR.out _).mono ?_
          rintro e w' ⟨rfl, q, rfl⟩
          have J2 := (J.drewN q).put (k - 1) (by omega) hQl
          go_wp2_with fail
          go_roundw
          case rel => exact ⟨k - 1, R, _, by omega, by go_num, rfl, hRl, J2, HJ2⟩
          case measure => simp [intOf]; omega
end Go.Proofs.YtkpomjdablopaaaGreatDoor
/- Walks: Text. -/
namespace Go.Proofs.YtkpomjdablopaaaGreatDoor
open Go.RowKit
set_option linter.unusedVariables false

theorem bytes_app (l : List UInt8) (s : ByteArray) : Lib.byteCells l ++ Lib.strCells s = Lib.byteCells (l ++ s.data.toList) := by
  simp [Lib.byteCells, Lib.strCells]
theorem bytes_one (l : List UInt8) (b : UInt8) (c : Int) (h : c = (b.toNat : Int)) : Lib.byteCells l ++ [.int .u8 c] = Lib.byteCells (l ++ [b]) := by
  subst h; simp [Lib.byteCells]
/-- what a builder's writing leaves of an owned row of another type -/
theorem own_others {w w' : World} {base bt e n : Nat} {v : Value} {xs : List Value} (h : w.ownsRow base e 1 v n xs) (hk : Lib.OthersKept 5 (some bt) w w') (he : e ≠ 5) (hne : v.ownBlock ≠ some bt) : w'.ownsRow base e 1 v n xs := by
  refine ⟨h.1, ?_⟩
  rcases h.2 with h2 | ⟨g, cap, cur, rfl, hb, hg, rest⟩
  · exact .inl h2
  · refine .inr ⟨g, cap, cur, rfl, hb, hk g _ hg (fun e => hne (by simpa [Value.ownBlock] using e)) (fun c fz e2 => ?_), rest⟩
    injection e2 with _ e3 _
    exact he e3
theorem builder_below {w w' : World} {T e B b : Nat} {bs : List Value} (h : Lib.IsBuilderF T e B b bs w) (hb : Below w.heap.size w w') : Lib.IsBuilderF T e B b bs w' := by
  have key : ∀ p, Lib.BuilderAtF T e B b p bs w → Lib.BuilderAtF T e B b p bs w' := by
    intro p hp
    have hlt := hp.lt
    obtain ⟨hB, v, hv, hown, hne⟩ := hp
    exact ⟨hB, v, (hb.block b hlt).trans hv, hown.kept (row := none) ⟨hb.os, hb.tape, hb.output, hb.size, fun k hk _ => hb.block k hk⟩ (by cases hv : v.ownBlock <;> simp), hne⟩
  rcases h with h | h
  · exact .inl (key _ h)
  · exact .inr (key _ h)
/-- Text's world -/
structure TxInv (w wr : World) (bt : Nat) (x y : Value) (l : List UInt8) : Prop where
  t1 : Two wr w.heap.size x y
  bd : Lib.IsBuilderF 73 5 bt bt (Lib.byteCells l) wr
  hz : w.heap.size < bt
  bel : Below w.heap.size w wr
  hbt : bt ≤ wr.heap.size
theorem TxInv.wrote {w wr wx : World} {bt : Nat} {x y : Value} {l l' : List UInt8} {bs : List Value} (h : TxInv w wr bt x y l) (ha : Lib.BuilderAtF 73 5 bt bt (.pointer (some ⟨bt, 0, none⟩)) bs wx) (hb : Below bt wr wx) (e : bs = Lib.byteCells l') : TxInv w wx bt x y l' :=
  ⟨h.t1.below hb h.hz, .inr (by rw [← e]; exact ha), h.hz, h.bel.trans (hb.mono (Nat.le_of_lt h.hz)), Nat.le_trans h.hbt hb.size⟩
theorem TxInv.below {w wr wx : World} {bt : Nat} {x y : Value} {l : List UInt8} (h : TxInv w wr bt x y l) (hb : Below wr.heap.size wr wx) : TxInv w wx bt x y l :=
  ⟨h.t1.below hb h.t1.lt, builder_below h.bd hb, h.hz, h.bel.trans (hb.mono (Nat.le_trans (Nat.le_of_lt h.hz) h.hbt)), Nat.le_trans h.hbt hb.size⟩

theorem pad_len {g : Nat} (h : g < 10000000000000000000) : (Kn.pad 19 g).length = 19 := by
  have := Kn.dec_len (k := 18) (g := g) h
  unfold Kn.pad
  rw [List.length_append, List.length_replicate]; omega
theorem gtext_len (gs : List Nat) (h : ∀ x ∈ gs, x < 10000000000000000000) : (Kn.gtext gs).length ≤ 19 * gs.length := by
  induction gs with
  | nil => simp [Kn.gtext]
  | cons g l ih =>
    have hg := h g (List.mem_cons_self)
    cases l with
    | nil =>
      have := Kn.dec_len (k := 18) (g := g) hg
      show (Lib.decDigits g).length ≤ 19 * 1
      omega
    | cons g' l =>
      have i := ih (fun x hx => h x (List.mem_cons_of_mem _ hx))
      show (Kn.gtext (g' :: l) ++ Kn.pad 19 g).length ≤ _
      rw [List.length_append, pad_len hg]
      simp at i ⊢; omega
theorem itoa0 : Lib.itoa 0 = [48] := by
  have := Lib.itoa_nonneg 0
  rw [Lib.decDigits_one (by decide)] at this
  exact this
theorem rep0 (c : Nat) : Lib.repeatL (⟨#[48]⟩ : ByteArray).data.toList c = List.replicate c 48 := by
  have := Lib.repeatL_replicate 48 1 c
  simpa using this
theorem u64_at {w : World} {base n c : Nat} {A : Option Addr} {L : List Nat} {k : Nat} (h : w.ownsRow base 82 1 (.slice A n c) n (u64s L)) (hk : k < L.length) :
    ∃ b off x, A = some ⟨b, off, none⟩ ∧ b < w.heap.size ∧ w.cell? ⟨b, off + k, none⟩ = some (.int .u64 ((x : Nat) : Int)) ∧ Hid (x = L.getD k 0) := by
  obtain ⟨b, off, hA, hb, hc⟩ := (Row.of_own h).cells (by rw [u64s_len]; omega)
  refine ⟨b, off, L.getD k 0, hA, hb, hc k _ ?_, Lib.hid rfl⟩
  unfold u64s
  rw [List.getElem?_map, List.getElem?_eq_getElem hk, List.getD_eq_getElem?_getD, List.getElem?_eq_getElem hk]; rfl

set_option maxRecDepth 100000 in
set_option maxHeartbeats 4000000 in
theorem text_false (A : Option Addr) (c : Nat) (ws : List Nat) (w : World) (h : Sl w w.heap.size A c ws) (hl : ws.length ≤ 1000000) (ht : Tabs w) (hp : 0 < Kn.val ws) :
    Calls Tryz.prog 23 #[intV false A ws.length c] w fun e w' => e = .returned (.string ⟨(Lib.itoa (Kn.iv false ws)).toArray⟩) ∧ Below w.heap.size w w' := by
  obtain ⟨T, hT⟩ : ∃ T : Nat, Hid (T = Kn.val ws) := ⟨_, Lib.hid rfl⟩
  have hTp : Hid (0 < T) := Lib.hid (by rw [hT.out]; exact hp)
  have hFin : Hid ([] ++ Lib.decDigits T = Lib.itoa (Kn.iv false ws)) := Lib.hid (by
    have e : Kn.iv false ws = (T : Int) := by unfold Kn.iv; rw [hT.out]; simp
    rw [e, Lib.itoa_nonneg]; rfl)
  have hSn : Hid (∀ w : World, Sl w w.heap.size A c ws → Calls Tryz.prog 51 #[.agg #[.bool false, .slice A ws.length c]] w fun e w' => e = .returned (.int .i64 1) ∧ Below w.heap.size w w') := Lib.hid (fun w h => by
    have := sign_any false A c ws w h (by omega)
    have e : (Kn.iv false ws).sign = 1 := by
      unfold Kn.iv; simp
      first | omega | (apply Int.sign_eq_one_of_pos; omega)
    rw [e] at this
    exact this)
  clear hp
  unfold intV
  go_enter Tryz.func23, Tryz.ntmps23
  go_wp2_with fail
  have t0 := Two.new_ w (.bool false) (.slice A ws.length c) 24
  have hX := (h.alloc (Nat.le_refl _) (.cells #[.bool false, .slice A ws.length c] 24)).more (B' := (w.alloc (.cells #[.bool false, .slice A ws.length c] 24)).heap.size) (by simp)
  have hB0 := al1 w (.cells #[.bool false, .slice A ws.length c] 24)
  have hz0 : w.heap.size < (w.alloc (.cells #[.bool false, .slice A ws.length c] 24)).heap.size := by simp
  revert t0 hX hB0 hz0
  generalize w.alloc (.cells #[.bool false, .slice A ws.length c] 24) = w1
  intro t0 hX hB0 hz0
  refine (hSn.out w1 hX).mono ?_
  rintro e w2 ⟨rfl, hb2⟩
  replace t0 := t0.below hb2 hz0
  have hB2 : Below w.heap.size w w2 := hB0.trans (hb2.mono (Nat.le_of_lt hz0))
  have hz2 : w.heap.size < w2.heap.size := Nat.lt_of_lt_of_le hz0 hb2.size
  clear hX hB0 hz0 hb2
  have c10 := t0.c0
  have c11 := t0.c1
  go_wp2_with fail
  have hinv : TxInv w (w2.alloc (.cells #[.pointer none, .slice none 0 0] 73)) w2.heap.size (.bool false) (.slice A ws.length c) [] :=
    ⟨t0.alloc _, .inl ⟨Nat.le_refl _, .slice none 0 0, heap_alloc_new _ _, World.ownsRowF_nil _ _ _ _, by simp [Value.ownBlock]⟩, hz2, hB2.alloc (Nat.le_of_lt hz2) _, by simp⟩
  generalize hbt : w2.heap.size = bt at *
  revert hinv
  generalize w2.alloc (.cells #[.pointer none, .slice none 0 0] 73) = wa
  intro hinv
  clear c10 c11 t0 hB2 hz2 hbt
  obtain ⟨w3, rfl⟩ : ∃ w3, w3 = wa := ⟨_, rfl⟩
  refine (decimalGroups_any A c ws w3 ((h.below hinv.bel).more hinv.bel.size) (by omega) T hT).mono ?_
  rintro e w4 ⟨A', c', gs, rfl, hown, hb4, hE, hgl⟩
  have hge : ∀ g, (Value.slice A' gs.length c').ownBlock = some g → bt < g := fun g hg => by
    have := (hown.lt g hg).1; have := hinv.hbt; omega
  have hG := Lib.hid hge
  replace hinv := hinv.below hb4
  clear hge hb4
  have HE := Lib.hid hE
  clear hE
  have hgp : 0 < gs.length := by
    rcases Nat.eq_zero_or_pos gs.length with h0 | h0
    · have h1 := HE.out.1
      rw [List.eq_nil_of_length_eq_zero h0] at h1
      have h2 := hTp.out
      rw [← h1] at h2
      exact absurd h2 (by simp [Kn.vb])
    · exact h0
  have hlast : Hid (gs.getD (gs.length - 1) 0 ≠ 0) := Lib.hid (by rcases HE.out.2.2 with h0 | h0; · omega
                                                                  · exact h0)
  have hdec : Hid (Kn.gtext gs = Lib.decDigits T) := Lib.hid (by rw [(Kn.gtext_eq gs HE.out.2.1 hgp hlast.out).1, HE.out.1])
  have hgl19 : Hid (∀ k, (Kn.gtext (gs.drop k)).length ≤ 19 * gs.length) := Lib.hid (fun k => by
    have := gtext_len (gs.drop k) (fun x hx => HE.out.2.1 x (List.mem_of_mem_drop hx))
    rw [List.length_drop] at this; omega)
  obtain ⟨b, off, x, hA', hbb, hc, hx⟩ := u64_at hown (k := gs.length - 1) (by omega)
  have hxl : Hid (x < 10000000000000000000) := Lib.hid (by
    rw [hx.out]
    have hk : gs.length - 1 < gs.length := by omega
    rw [List.getD_eq_getElem?_getD, List.getElem?_eq_getElem hk]
    exact HE.out.2.1 _ (List.getElem_mem hk))
  subst hA'
  have e1 : ((gs.length : Int) - 1).toNat = gs.length - 1 := by omega
  have e2 : (0 : Int) ≤ (gs.length : Int) - 1 := by omega
  go_wp2_with fail
  refine (fmt_any x (by have := hxl.out; omega) w4 (ht.below hinv.bel)).mono ?_
  rintro e w5 ⟨rfl, hb5⟩
  replace hinv := hinv.below hb5
  have how5 := own_below hown hb5
  clear hown hb5 hc hbb
  go_wp2_with fail
  refine (writeString bt bt _ _ w5 hinv.bd (by have := Kn.dec_len (k := 18) (g := x) hxl.out; simp [Lib.byteCells, ByteArray.size] <;> omega) hinv.hbt).mono ?_
  rintro e w6 ⟨rfl, ha6, hb6, ho6⟩
  have hinv6 := hinv.wrote ha6 hb6 (l' := [] ++ Kn.gtext (gs.drop (gs.length - 1))) (by rw [bytes_app, Kn.gtext_last gs hgp, hx.out] <;> rfl)
  have how6 := own_others how5 ho6 (by decide) (fun e => by have := hG.out bt e; omega)
  clear ha6 hb6 ho6 how5 hinv
  go_wp2_with fail
  go_loopw [6] (fun iv wr => ∃ k : Nat, k < gs.length ∧ iv = .int .i64 ((k : Int) - 1) ∧ TxInv w wr bt (.bool false) (.slice A ws.length c) ([] ++ Kn.gtext (gs.drop k)) ∧ wr.ownsRow (w3.heap.size + 1) 82 1 (.slice (some ⟨b, off, none⟩) gs.length c') gs.length (u64s gs)) (fun iv _ => (intOf iv + 1).toNat)
  case atStart => exact ⟨gs.length - 1, by omega, by go_num, hinv6, how6⟩
  case round =>
    clear hinv6 how6 hx hxl e1 e2
    obtain ⟨k, hk, rfl, J, how⟩ := hrel
    have hlk := hgl19.out k
    by_cases hk0 : k = 0
    · have HK := Lib.hid hk0
      subst hk0
      go_wp2_with fail
      refine (builderString bt bt _ wr J.bd J.hbt).mono ?_
      rintro e wd ⟨rfl, _, hbd, _⟩
      go_wp2_with fail
      go_ret
      refine ⟨?_, J.bel.trans (hbd.mono (Nat.le_of_lt J.hz))⟩
      have hf := hFin.out
      rw [← hf, ← hdec.out]
      rfl
    · have hk1 : 0 < k := by omega
      obtain ⟨b2, off2, x, hA2, hbb, hc, hx⟩ := u64_at how (k := k - 1) (by omega)
      injection hA2 with hA2
      injection hA2 with hA3 hA4
      subst hA3 hA4
      have hxl : Hid (x < 10000000000000000000) := Lib.hid (by
        rw [hx.out]
        have hk2 : k - 1 < gs.length := by omega
        rw [List.getD_eq_getElem?_getD, List.getElem?_eq_getElem hk2]
        exact HE.out.2.1 _ (List.getElem_mem hk2))
      have e1 : ((k : Int) - 1).toNat = k - 1 := by omega
      have e2 : (0 : Int) ≤ (k : Int) - 1 := by omega
      have hdl := Kn.dec_len (k := 18) (g := x) hxl.out
      obtain ⟨s, hs⟩ : ∃ s : ByteArray, Hid (s = ⟨(Lib.decDigits x).toArray⟩) := ⟨_, Lib.hid rfl⟩
      have hss : Hid (s.size = (Lib.decDigits x).length) := Lib.hid (by rw [hs.out]; rfl)
      have hsl : s.size ≤ 19 := by rw [hss.out]; exact hdl
      obtain ⟨cc, hcc⟩ : ∃ cc : Nat, cc = 19 - s.size := ⟨_, rfl⟩
      have hci : (19 : Int) - (s.size : Int) = (cc : Int) := by omega
      have hcl : cc ≤ 19 := by omega
      have HC := Lib.hid hcc
      clear hk0 hcc hdl
      go_wp2_with fail
      refine (fmt_any x (by have := hxl.out; omega) wr (ht.below J.bel)).mono ?_
      rw [← hs.out]
      rintro e w7 ⟨rfl, hb7⟩
      replace J := J.below hb7
      replace how := own_below how hb7
      clear hb7 hc hbb
      go_wp2_with fail
      refine (repeat_any ⟨#[48]⟩ cc w7 (by omega) (by show 1 * cc ≤ _; omega)).mono ?_
      rintro e w8 ⟨rfl, hb8⟩
      replace J := J.below hb8
      replace how := own_below how hb8
      clear hb8
      rw [rep0]
      go_wp2_with fail
      refine (writeString bt bt _ _ w8 J.bd (by simp [Lib.byteCells, ByteArray.size] <;> omega) J.hbt).mono ?_
      rintro e w9 ⟨rfl, ha9, hb9, ho9⟩
      have J9 := J.wrote ha9 hb9 (l' := [] ++ Kn.gtext (gs.drop k) ++ List.replicate cc 48) (by rw [bytes_app]; simp)
      have how9 := own_others how ho9 (by decide) (fun e => by have := hG.out bt e; omega)
      clear ha9 hb9 ho9 J how
      go_wp2_with fail
      refine (writeString bt bt _ _ w9 J9.bd (by simp [Lib.byteCells] <;> omega) J9.hbt).mono ?_
      rintro e wa ⟨rfl, haa, hba, hoa⟩
      have Ja := J9.wrote haa hba (l' := [] ++ Kn.gtext (gs.drop (k - 1))) (by
        have hd := Kn.gtext_drop gs (i := k - 1) (by omega)
        rw [Nat.sub_add_cancel hk1] at hd
        rw [bytes_app, hd, ← hx.out, hs.out]
        unfold Kn.pad
        rw [HC.out, hss.out, List.append_assoc, List.append_assoc])
      have howa := own_others how9 hoa (by decide) (fun e => by have := hG.out bt e; omega)
      clear haa hba hoa J9 how9 hci
      go_wp2_with fail
      go_roundw
      case rel => exact ⟨k - 1, by omega, by go_num, Ja, howa⟩
      case measure => simp [intOf]; omega

set_option maxRecDepth 100000 in
set_option maxHeartbeats 4000000 in
theorem text_true (A : Option Addr) (c : Nat) (ws : List Nat) (w : World) (h : Sl w w.heap.size A c ws) (hl : ws.length ≤ 1000000) (ht : Tabs w) (hp : 0 < Kn.val ws) :
    Calls Tryz.prog 23 #[intV true A ws.length c] w fun e w' => e = .returned (.string ⟨(Lib.itoa (Kn.iv true ws)).toArray⟩) ∧ Below w.heap.size w w' := by
  obtain ⟨T, hT⟩ : ∃ T : Nat, Hid (T = Kn.val ws) := ⟨_, Lib.hid rfl⟩
  have hTp : Hid (0 < T) := Lib.hid (by rw [hT.out]; exact hp)
  have hFin : Hid ([45] ++ Lib.decDigits T = Lib.itoa (Kn.iv true ws)) := Lib.hid (by
    have e : Kn.iv true ws = -(T : Int) := by unfold Kn.iv; rw [hT.out]; simp
    rw [e, Lib.itoa_neg T hTp.out]; rfl)
  have hSn : Hid (∀ w : World, Sl w w.heap.size A c ws → Calls Tryz.prog 51 #[.agg #[.bool true, .slice A ws.length c]] w fun e w' => e = .returned (.int .i64 (-1)) ∧ Below w.heap.size w w') := Lib.hid (fun w h => by
    have := sign_any true A c ws w h (by omega)
    have e : (Kn.iv true ws).sign = (-1) := by
      unfold Kn.iv; simp
      first | omega | (apply Int.sign_eq_one_of_pos; omega)
    rw [e] at this
    exact this)
  clear hp
  unfold intV
  go_enter Tryz.func23, Tryz.ntmps23
  go_wp2_with fail
  have t0 := Two.new_ w (.bool true) (.slice A ws.length c) 24
  have hX := (h.alloc (Nat.le_refl _) (.cells #[.bool true, .slice A ws.length c] 24)).more (B' := (w.alloc (.cells #[.bool true, .slice A ws.length c] 24)).heap.size) (by simp)
  have hB0 := al1 w (.cells #[.bool true, .slice A ws.length c] 24)
  have hz0 : w.heap.size < (w.alloc (.cells #[.bool true, .slice A ws.length c] 24)).heap.size := by simp
  revert t0 hX hB0 hz0
  generalize w.alloc (.cells #[.bool true, .slice A ws.length c] 24) = w1
  intro t0 hX hB0 hz0
  refine (hSn.out w1 hX).mono ?_
  rintro e w2 ⟨rfl, hb2⟩
  replace t0 := t0.below hb2 hz0
  have hB2 : Below w.heap.size w w2 := hB0.trans (hb2.mono (Nat.le_of_lt hz0))
  have hz2 : w.heap.size < w2.heap.size := Nat.lt_of_lt_of_le hz0 hb2.size
  clear hX hB0 hz0 hb2
  have c10 := t0.c0
  have c11 := t0.c1
  go_wp2_with fail
  have hinv : TxInv w (w2.alloc (.cells #[.pointer none, .slice none 0 0] 73)) w2.heap.size (.bool true) (.slice A ws.length c) [] :=
    ⟨t0.alloc _, .inl ⟨Nat.le_refl _, .slice none 0 0, heap_alloc_new _ _, World.ownsRowF_nil _ _ _ _, by simp [Value.ownBlock]⟩, hz2, hB2.alloc (Nat.le_of_lt hz2) _, by simp⟩
  generalize hbt : w2.heap.size = bt at *
  revert hinv
  generalize w2.alloc (.cells #[.pointer none, .slice none 0 0] 73) = wa
  intro hinv
  clear c10 c11 t0 hB2 hz2 hbt
  refine (writeByte bt bt _ 45 wa hinv.bd (by simp [Lib.byteCells]) hinv.hbt).mono ?_
  rintro e w3 ⟨rfl, ha3, hb3, _⟩
  replace hinv := hinv.wrote ha3 hb3 (bytes_one [] 45 45 rfl)
  clear ha3 hb3
  have c10 := hinv.t1.c0
  have c11 := hinv.t1.c1
  go_wp2_with fail
  refine (decimalGroups_any A c ws w3 ((h.below hinv.bel).more hinv.bel.size) (by omega) T hT).mono ?_
  rintro e w4 ⟨A', c', gs, rfl, hown, hb4, hE, hgl⟩
  have hge : ∀ g, (Value.slice A' gs.length c').ownBlock = some g → bt < g := fun g hg => by
    have := (hown.lt g hg).1; have := hinv.hbt; omega
  have hG := Lib.hid hge
  replace hinv := hinv.below hb4
  clear hge hb4
  have HE := Lib.hid hE
  clear hE
  have hgp : 0 < gs.length := by
    rcases Nat.eq_zero_or_pos gs.length with h0 | h0
    · have h1 := HE.out.1
      rw [List.eq_nil_of_length_eq_zero h0] at h1
      have h2 := hTp.out
      rw [← h1] at h2
      exact absurd h2 (by simp [Kn.vb])
    · exact h0
  have hlast : Hid (gs.getD (gs.length - 1) 0 ≠ 0) := Lib.hid (by rcases HE.out.2.2 with h0 | h0; · omega
                                                                  · exact h0)
  have hdec : Hid (Kn.gtext gs = Lib.decDigits T) := Lib.hid (by rw [(Kn.gtext_eq gs HE.out.2.1 hgp hlast.out).1, HE.out.1])
  have hgl19 : Hid (∀ k, (Kn.gtext (gs.drop k)).length ≤ 19 * gs.length) := Lib.hid (fun k => by
    have := gtext_len (gs.drop k) (fun x hx => HE.out.2.1 x (List.mem_of_mem_drop hx))
    rw [List.length_drop] at this; omega)
  obtain ⟨b, off, x, hA', hbb, hc, hx⟩ := u64_at hown (k := gs.length - 1) (by omega)
  have hxl : Hid (x < 10000000000000000000) := Lib.hid (by
    rw [hx.out]
    have hk : gs.length - 1 < gs.length := by omega
    rw [List.getD_eq_getElem?_getD, List.getElem?_eq_getElem hk]
    exact HE.out.2.1 _ (List.getElem_mem hk))
  subst hA'
  have e1 : ((gs.length : Int) - 1).toNat = gs.length - 1 := by omega
  have e2 : (0 : Int) ≤ (gs.length : Int) - 1 := by omega
  go_wp2_with fail
  refine (fmt_any x (by have := hxl.out; omega) w4 (ht.below hinv.bel)).mono ?_
  rintro e w5 ⟨rfl, hb5⟩
  replace hinv := hinv.below hb5
  have how5 := own_below hown hb5
  clear hown hb5 hc hbb
  go_wp2_with fail
  refine (writeString bt bt _ _ w5 hinv.bd (by have := Kn.dec_len (k := 18) (g := x) hxl.out; simp [Lib.byteCells, ByteArray.size] <;> omega) hinv.hbt).mono ?_
  rintro e w6 ⟨rfl, ha6, hb6, ho6⟩
  have hinv6 := hinv.wrote ha6 hb6 (l' := [45] ++ Kn.gtext (gs.drop (gs.length - 1))) (by rw [bytes_app, Kn.gtext_last gs hgp, hx.out] <;> rfl)
  have how6 := own_others how5 ho6 (by decide) (fun e => by have := hG.out bt e; omega)
  clear ha6 hb6 ho6 how5 hinv
  go_wp2_with fail
  go_loopw [6] (fun iv wr => ∃ k : Nat, k < gs.length ∧ iv = .int .i64 ((k : Int) - 1) ∧ TxInv w wr bt (.bool true) (.slice A ws.length c) ([45] ++ Kn.gtext (gs.drop k)) ∧ wr.ownsRow (w3.heap.size + 1) 82 1 (.slice (some ⟨b, off, none⟩) gs.length c') gs.length (u64s gs)) (fun iv _ => (intOf iv + 1).toNat)
  case atStart => exact ⟨gs.length - 1, by omega, by go_num, hinv6, how6⟩
  case round =>
    clear hinv6 how6 hx hxl e1 e2
    obtain ⟨k, hk, rfl, J, how⟩ := hrel
    have hlk := hgl19.out k
    by_cases hk0 : k = 0
    · have HK := Lib.hid hk0
      subst hk0
      go_wp2_with fail
      refine (builderString bt bt _ wr J.bd J.hbt).mono ?_
      rintro e wd ⟨rfl, _, hbd, _⟩
      go_wp2_with fail
      go_ret
      refine ⟨?_, J.bel.trans (hbd.mono (Nat.le_of_lt J.hz))⟩
      have hf := hFin.out
      rw [← hf, ← hdec.out]
      rfl
    · have hk1 : 0 < k := by omega
      obtain ⟨b2, off2, x, hA2, hbb, hc, hx⟩ := u64_at how (k := k - 1) (by omega)
      injection hA2 with hA2
      injection hA2 with hA3 hA4
      subst hA3 hA4
      have hxl : Hid (x < 10000000000000000000) := Lib.hid (by
        rw [hx.out]
        have hk2 : k - 1 < gs.length := by omega
        rw [List.getD_eq_getElem?_getD, List.getElem?_eq_getElem hk2]
        exact HE.out.2.1 _ (List.getElem_mem hk2))
      have e1 : ((k : Int) - 1).toNat = k - 1 := by omega
      have e2 : (0 : Int) ≤ (k : Int) - 1 := by omega
      have hdl := Kn.dec_len (k := 18) (g := x) hxl.out
      obtain ⟨s, hs⟩ : ∃ s : ByteArray, Hid (s = ⟨(Lib.decDigits x).toArray⟩) := ⟨_, Lib.hid rfl⟩
      have hss : Hid (s.size = (Lib.decDigits x).length) := Lib.hid (by rw [hs.out]; rfl)
      have hsl : s.size ≤ 19 := by rw [hss.out]; exact hdl
      obtain ⟨cc, hcc⟩ : ∃ cc : Nat, cc = 19 - s.size := ⟨_, rfl⟩
      have hci : (19 : Int) - (s.size : Int) = (cc : Int) := by omega
      have hcl : cc ≤ 19 := by omega
      have HC := Lib.hid hcc
      clear hk0 hcc hdl
      go_wp2_with fail
      refine (fmt_any x (by have := hxl.out; omega) wr (ht.below J.bel)).mono ?_
      rw [← hs.out]
      rintro e w7 ⟨rfl, hb7⟩
      replace J := J.below hb7
      replace how := own_below how hb7
      clear hb7 hc hbb
      go_wp2_with fail
      refine (repeat_any ⟨#[48]⟩ cc w7 (by omega) (by show 1 * cc ≤ _; omega)).mono ?_
      rintro e w8 ⟨rfl, hb8⟩
      replace J := J.below hb8
      replace how := own_below how hb8
      clear hb8
      rw [rep0]
      go_wp2_with fail
      refine (writeString bt bt _ _ w8 J.bd (by simp [Lib.byteCells, ByteArray.size] <;> omega) J.hbt).mono ?_
      rintro e w9 ⟨rfl, ha9, hb9, ho9⟩
      have J9 := J.wrote ha9 hb9 (l' := [45] ++ Kn.gtext (gs.drop k) ++ List.replicate cc 48) (by rw [bytes_app]; simp)
      have how9 := own_others how ho9 (by decide) (fun e => by have := hG.out bt e; omega)
      clear ha9 hb9 ho9 J how
      go_wp2_with fail
      refine (writeString bt bt _ _ w9 J9.bd (by simp [Lib.byteCells] <;> omega) J9.hbt).mono ?_
      rintro e wa ⟨rfl, haa, hba, hoa⟩
      have Ja := J9.wrote haa hba (l' := [45] ++ Kn.gtext (gs.drop (k - 1))) (by
        have hd := Kn.gtext_drop gs (i := k - 1) (by omega)
        rw [Nat.sub_add_cancel hk1] at hd
        rw [bytes_app, hd, ← hx.out, hs.out]
        unfold Kn.pad
        rw [HC.out, hss.out, List.append_assoc, List.append_assoc])
      have howa := own_others how9 hoa (by decide) (fun e => by have := hG.out bt e; omega)
      clear haa hba hoa J9 how9 hci
      go_wp2_with fail
      go_roundw
      case rel => exact ⟨k - 1, by omega, by go_num, Ja, howa⟩
      case measure => simp [intOf]; omega


set_option maxRecDepth 100000 in
set_option maxHeartbeats 400000 in
theorem text_zero (neg : Bool) (A : Option Addr) (c : Nat) (ws : List Nat) (w : World) (h : Sl w w.heap.size A c ws) (hl : ws.length ≤ 1000000) (hp : Kn.val ws = 0) :
    Calls Tryz.prog 23 #[intV neg A ws.length c] w fun e w' => e = .returned (.string ⟨(Lib.itoa (Kn.iv neg ws)).toArray⟩) ∧ Below w.heap.size w w' := by
  have hiv : Kn.iv neg ws = 0 := by unfold Kn.iv; rw [hp]; cases neg <;> rfl
  have HSG := fun (w : World) (h : Sl w w.heap.size A c ws) => sign_any neg A c ws w h (by omega)
  rw [hiv] at HSG ⊢
  have HS := Lib.hid HSG
  clear HSG hp hiv
  unfold intV
  go_enter Tryz.func23, Tryz.ntmps23
  go_wp2_with fail
  refine (HS.out _ ((h.alloc (Nat.le_refl _) _).more (by simp))).mono ?_
  rintro e w2 ⟨rfl, hb⟩
  go_wp2_with fail
  go_ret
  exact ⟨by rw [itoa0]; rfl, ((Below.refl _ _).alloc (Nat.le_refl _) _).trans (hb.mono (by simp))⟩

theorem text_any (neg : Bool) (A : Option Addr) (c : Nat) (ws : List Nat) (w : World) (h : Sl w w.heap.size A c ws) (hl : ws.length ≤ 1000000) (ht : Tabs w) :
    Calls Tryz.prog 23 #[intV neg A ws.length c] w fun e w' => e = .returned (.string ⟨(Lib.itoa (Kn.iv neg ws)).toArray⟩) ∧ Below w.heap.size w w' := by
  rcases Nat.eq_zero_or_pos (Kn.val ws) with hp | hp
  · exact text_zero neg A c ws w h hl hp
  · cases neg
    · exact text_false A c ws w h hl ht hp
    · exact text_true A c ws w h hl ht hp
end Go.Proofs.YtkpomjdablopaaaGreatDoor
/- Walks: the law's known. -/
namespace Go.Proofs.YtkpomjdablopaaaGreatDoor
open Go.RowKit
set_option linter.unusedVariables false

def kz : Int := -18446744078004518912
def kx : List Nat := [0, 1]
def ky : List Nat := [1, 1]
theorem kz_eq : Kn.iv true kx * Kn.iv false ky = kz := by decide +kernel
theorem kz_text : Lib.itoa kz = [45, 49, 56, 52, 52, 54, 55, 52, 52, 48, 55, 56, 48, 48, 52, 53, 49, 56, 57, 49, 50] := by
  have h := Lib.itoa_neg 18446744078004518912 (by decide)
  have e : Lib.decDigits 18446744078004518912 = [49, 56, 52, 52, 54, 55, 52, 52, 48, 55, 56, 48, 48, 52, 53, 49, 56, 57, 49, 50] := by decide +kernel
  rw [e] at h
  exact h

end Go.Proofs.YtkpomjdablopaaaGreatDoor
/- For the laws: integers in memory with their values; what the functions make of them. -/
namespace Go.Proofs.YtkpomjdablopaaaGreatDoor
open Go.RowKit
set_option linter.unusedVariables false

/-- the integer z, of at most n words -/
structure Iv (W : World) (p : Bool) (A : Option Addr) (c : Nat) (l : List Nat) (z : Int) (n : Nat) : Prop where
  sl : Sl W W.heap.size A c l
  val : Kn.iv p l = z
  len : l.length ≤ n
/-- in canonical form -/
structure Cn (W : World) (p : Bool) (A : Option Addr) (c : Nat) (l : List Nat) (z : Int) (n : Nat) : Prop where
  iv : Iv W p A c l z n
  can : p = decide (z < 0) ∧ l = Kn.dig z.natAbs
section
variable {W W' : World} {p q : Bool} {A B : Option Addr} {c d : Nat} {l m : List Nat} {x y z : Int} {n k : Nat}
theorem Iv.below (h : Iv W p A c l z n) (hb : Below W.heap.size W W') : Iv W' p A c l z n := ⟨h.sl.at_ hb (Nat.le_refl _), h.val, h.len⟩
theorem Cn.below (h : Cn W p A c l z n) (hb : Below W.heap.size W W') : Cn W' p A c l z n := ⟨h.iv.below hb, h.can⟩
theorem Iv.drew (h : Iv W p A c l z n) : Iv W.drew p A c l z n := ⟨h.sl.drew, h.val, h.len⟩
theorem Cn.drew (h : Cn W p A c l z n) : Cn W.drew p A c l z n := ⟨h.iv.drew, h.can⟩
theorem Iv.alloc (h : Iv W p A c l z n) (o : Obj) : Iv (W.alloc o) p A c l z n := ⟨(h.sl.alloc (Nat.le_refl _) o).more (by simp), h.val, h.len⟩
theorem Cn.alloc (h : Cn W p A c l z n) (o : Obj) : Cn (W.alloc o) p A c l z n := ⟨h.iv.alloc o, h.can⟩
theorem Iv.abs (h : Iv W p A c l z n) : z.natAbs < Kn.pw n := by
  have h1 := iv_abs_lt p h.sl.wd
  rw [h.val] at h1
  have := Kn.pw_mono h.len
  omega
/-- a new integer -/
def GI (z : Int) (n : Nat) (W : World) (e : Ending) (W' : World) : Prop := ∃ p A c l, e = .returned (.agg #[.bool p, .slice A l.length c]) ∧ Cn W' p A c l z n ∧ Below W.heap.size W W'
theorem GI.of {e : Ending} (h : IntRes z W e W') (hz : z.natAbs < Kn.pw n) : GI z n W e W' := by
  obtain ⟨A, c, he, hS, hb⟩ := h
  exact ⟨_, A, c, _, he, ⟨⟨hS, Kn.iv_dig z, Kn.dig_len_le hz⟩, rfl, rfl⟩, hb⟩
theorem pw_max (hx : x.natAbs < Kn.pw n) (hy : y.natAbs < Kn.pw k) : x.natAbs + y.natAbs < Kn.pw (max n k + 1) := by
  have h1 := Kn.pw_mono (show n ≤ max n k by omega)
  have h2 := Kn.pw_mono (show k ≤ max n k by omega)
  rw [Kn.pw_succ]; omega
theorem gadd (h1 : Iv W p A c l x n) (h2 : Iv W q B d m y k) (hn : n ≤ 100) (hk : k ≤ 100) : Calls Tryz.prog 49 #[.agg #[.bool p, .slice A l.length c], .agg #[.bool q, .slice B m.length d]] W (GI (x + y) (max n k + 1) W) := by
  have h := add_any p A c l q B d m W h1.sl h2.sl (by have := h1.len; omega) (by have := h2.len; omega)
  rw [h1.val, h2.val] at h
  exact h.mono fun _ _ hr => GI.of hr (by have := pw_max h1.abs h2.abs; omega)
theorem gradd (h1 : Iv W p A c l x n) (h2 : Iv W q B d m y k) (hn : n ≤ 100) (hk : k ≤ 100) : Calls Tryz.prog 74 #[.agg #[.bool p, .slice A l.length c], .agg #[.bool q, .slice B m.length d]] W (GI (x + y) (max n k + 1) W) := by
  have h := radd_any p A c l q B d m W h1.sl h2.sl (by have := h1.len; omega) (by have := h2.len; omega)
  rw [h1.val, h2.val] at h
  exact h.mono fun _ _ hr => GI.of hr (by have := pw_max h1.abs h2.abs; omega)
theorem grsub (h1 : Iv W p A c l x n) (h2 : Iv W q B d m y k) (hn : n ≤ 100) (hk : k ≤ 100) : Calls Tryz.prog 112 #[.agg #[.bool p, .slice A l.length c], .agg #[.bool q, .slice B m.length d]] W (GI (x - y) (max n k + 1) W) := by
  have h := rsub_any p A c l q B d m W h1.sl h2.sl (by have := h1.len; omega) (by have := h2.len; omega)
  rw [h1.val, h2.val] at h
  exact h.mono fun _ _ hr => GI.of hr (by have := pw_max h1.abs h2.abs; omega)
theorem gmul (h1 : Iv W p A c l x n) (h2 : Iv W q B d m y k) (hn : n ≤ 100) (hk : k ≤ 100) : Calls Tryz.prog 62 #[.agg #[.bool p, .slice A l.length c], .agg #[.bool q, .slice B m.length d]] W (GI (x * y) (n + k) W) := by
  have h := mul_any p A c l q B d m W h1.sl h2.sl (by have := h1.len; omega) (by have := h2.len; omega)
  rw [h1.val, h2.val] at h
  exact h.mono fun _ _ hr => GI.of hr (by rw [Int.natAbs_mul, Kn.pw_add]; exact Nat.mul_lt_mul'' h1.abs h2.abs)
theorem gneg (h1 : Iv W p A c l x n) (hn : n ≤ 100) : Calls Tryz.prog 28 #[.agg #[.bool p, .slice A l.length c]] W (GI (-x) n W) := by
  have h := neg_any p A c l W h1.sl (by have := h1.len; omega)
  rw [iv_not, h1.val] at h
  exact h.mono fun _ _ hr => GI.of hr (by rw [Int.natAbs_neg]; exact h1.abs)
theorem grclean (h1 : Iv W p A c l x n) (hn : n ≤ 100) : Calls Tryz.prog 70 #[.agg #[.bool p, .slice A l.length c]] W (GI x n W) := by
  have h := rclean_any p A c l W h1.sl (by have := h1.len; omega)
  rw [h1.val] at h
  exact h.mono fun _ _ hr => GI.of hr h1.abs
theorem grneg (h1 : Iv W p A c l x n) (hn : n ≤ 100) : Calls Tryz.prog 37 #[.agg #[.bool p, .slice A l.length c]] W (GI (-x) n W) := by
  have h := rneg_any p A c l W h1.sl (by have := h1.len; omega)
  rw [iv_not, h1.val] at h
  exact h.mono fun _ _ hr => GI.of hr (by rw [Int.natAbs_neg]; exact h1.abs)
theorem gcmp (h1 : Iv W p A c l x n) (h2 : Iv W q B d m y k) (hn : n ≤ 100) (hk : k ≤ 100) : Calls Tryz.prog 78 #[.agg #[.bool p, .slice A l.length c], .agg #[.bool q, .slice B m.length d]] W fun e w' => e = .returned (.int .i64 (cmpI x y)) ∧ Below W.heap.size W w' := by
  have h := bcompare_any p A c l q B d m W h1.sl h2.sl (by have := h1.len; omega) (by have := h2.len; omega)
  rwa [h1.val, h2.val] at h
theorem gsign (h1 : Iv W p A c l x n) (hn : n ≤ 1000) : Calls Tryz.prog 51 #[.agg #[.bool p, .slice A l.length c]] W fun e w' => e = .returned (.int .i64 x.sign) ∧ Below W.heap.size W w' := by
  have h := sign_any p A c l W h1.sl (by have := h1.len; omega)
  rwa [h1.val] at h
end

/-- three arguments in their boxes -/
structure A3 (w wr : World) (p1 : Bool) (a1 : Option Addr) (n1 c1 : Nat) (p2 : Bool) (a2 : Option Addr) (n2 c2 : Nat) (p3 : Bool) (a3 : Option Addr) (n3 c3 : Nat) : Prop where
  t1 : Two wr w.heap.size (.bool p1) (.slice a1 n1 c1)
  t2 : Two wr (w.heap.size + 1) (.bool p2) (.slice a2 n2 c2)
  t3 : Two wr (w.heap.size + 2) (.bool p3) (.slice a3 n3 c3)
  bel : Below w.heap.size w wr
section
variable {w wr wx : World} {p1 p2 p3 : Bool} {a1 a2 a3 : Option Addr} {n1 c1 n2 c2 n3 c3 : Nat}
theorem A3.below (h : A3 w wr p1 a1 n1 c1 p2 a2 n2 c2 p3 a3 n3 c3) (hb : Below wr.heap.size wr wx) : A3 w wx p1 a1 n1 c1 p2 a2 n2 c2 p3 a3 n3 c3 := ⟨h.t1.below hb h.t1.lt, h.t2.below hb h.t2.lt, h.t3.below hb h.t3.lt, h.bel.trans (hb.mono h.bel.size)⟩
theorem A3.drew (h : A3 w wr p1 a1 n1 c1 p2 a2 n2 c2 p3 a3 n3 c3) : A3 w wr.drew p1 a1 n1 c1 p2 a2 n2 c2 p3 a3 n3 c3 := ⟨h.t1.drew, h.t2.drew, h.t3.drew, bDrew1 h.bel⟩
theorem A3.alloc (h : A3 w wr p1 a1 n1 c1 p2 a2 n2 c2 p3 a3 n3 c3) (o : Obj) : A3 w (wr.alloc o) p1 a1 n1 c1 p2 a2 n2 c2 p3 a3 n3 c3 := ⟨h.t1.alloc o, h.t2.alloc o, h.t3.alloc o, h.bel.alloc h.bel.size o⟩
theorem A3.new_ (w : World) (p1 : Bool) (a1 : Option Addr) (n1 c1 : Nat) (p2 : Bool) (a2 : Option Addr) (n2 c2 : Nat) (p3 : Bool) (a3 : Option Addr) (n3 c3 : Nat) (T : TypeId) :
    A3 w (((w.alloc (.cells #[.bool p1, .slice a1 n1 c1] T)).alloc (.cells #[.bool p2, .slice a2 n2 c2] T)).alloc (.cells #[.bool p3, .slice a3 n3 c3] T)) p1 a1 n1 c1 p2 a2 n2 c2 p3 a3 n3 c3 :=
  ⟨((Two.new_ _ _ _ _).alloc _).alloc _, by simpa using (Two.new_ (w.alloc (.cells #[.bool p1, .slice a1 n1 c1] T)) (.bool p2) (.slice a2 n2 c2) T).alloc (.cells #[.bool p3, .slice a3 n3 c3] T),
    by simpa using Two.new_ ((w.alloc (.cells #[.bool p1, .slice a1 n1 c1] T)).alloc (.cells #[.bool p2, .slice a2 n2 c2] T)) (.bool p3) (.slice a3 n3 c3) T,
    (((Below.refl _ _).alloc (Nat.le_refl _) _).alloc (by simp) _).alloc (by simp; omega) _⟩
end
end Go.Proofs.YtkpomjdablopaaaGreatDoor
/- From a walk to a row: arguments that are integers, tables that are listed, and what a law leaves. -/
namespace Go.Proofs.YtkpomjdablopaaaGreatDoor
open Go.ChangeShapes Go.WideShapes Go.ChangeAt Go.RowKit
set_option linter.unusedVariables false

theorem own : ownKnob Tryz.prog.godebug = none := by kernel_rfl
theorem laidOut : laidOutB Tryz.prog = true := by kernel_rfl
theorem cellsInt24 : Tryz.prog.cellsOf 24 = 2 := by kernel_rfl
theorem cellsU32 : Tryz.prog.cellsOf 88 = 1 := by kernel_rfl
theorem cellsBool : Tryz.prog.cellsOf 4 = 1 := by kernel_rfl
theorem cellsInt : Tryz.prog.cellsOf 3 = 1 := by kernel_rfl
theorem cellsU64 : Tryz.prog.cellsOf 82 = 1 := by kernel_rfl
theorem cellsU8 : Tryz.prog.cellsOf 5 = 1 := by kernel_rfl

section
variable {H : Type} {enc : TypeId × Value → H}

/-- arguments that were read are read again in a world in which nothing old has turned -/
theorem trodAll_below {W W' : World} (hb : Below W.heap.size W W') : ∀ {ts : List TypeId} {vs : List Value} {ds : List (DataW H)} {ps : List MemPlace},
    (∀ t ∈ ts, Tryz.prog.readableRec t = true ∧ t < Tryz.prog.types.size) → (∀ x ∈ ps, x.block < W.heap.size) → DataW.TrodAll enc Tryz.prog W 0 (fun _ => true) true ts vs ds ps →
    DataW.TrodAll enc Tryz.prog W' 0 (fun b => decide (b < W.heap.size)) true ts vs ds ps := by
  intro ts
  induction ts with
  | nil =>
    intro vs ds ps _ _ h
    obtain ⟨rfl, rfl, rfl⟩ := trodAll_nil h
    exact trodAll_mk0
  | cons t ts ih =>
    intro vs ds ps ht hp h
    obtain ⟨v, vs', d, ds', p, q, rfl, rfl, rfl, h1, h2⟩ := trodAll_cons h
    exact trodAll_cons_mk (Below.trod laidOut (ht t (by simp)).1 (ht t (by simp)).2 h1 hb (fun x hx => hp x (by simp [hx]))) (ih (fun t' h' => ht t' (by simp [h'])) (fun x hx => hp x (by simp [hx])) h2)

/-- what a law leaves: true; its arguments read as they did -/
theorem law_post {f : Func} {s : ChangeSpec} {W W' : World} {args : Array Value} {ds : List (DataW H)} {before : List MemPlace}
    (hv : s.vars = []) (hW : DataW.Whole enc Tryz.prog f.params.toList s.vars false W args.toList ds [] before) (hA : DataW.TrodAll enc Tryz.prog W 0 (fun _ => true) true f.params.toList args.toList ds before)
    (ht : ∀ t ∈ f.params.toList, Tryz.prog.readableRec t = true ∧ t < Tryz.prog.types.size) (hr : f.resultTypes = #[4])
    (hs1 : (s.fn H (ds ++ [])).results = [.lit (.bool true)]) (hs2 : (s.fn H (ds ++ [])).args = ds) (hs3 : (s.fn H (ds ++ [])).vars = []) (hb : Below W.heap.size W W') :
    s.post enc Tryz.prog f false true false false W args (.bool true) W' := by
  refine ⟨ds, [], before, [], before, [], hW, ?_, ?_, ?_, hb.frame _, fun h => by cases h⟩
  · rw [hs1, hr]
    exact trodAll_cons_mk (shut_bool Tryz.underlying4 true) trodAll_mk0
  · rw [hs2]
    exact trodAll_below hb ht (fun x hx => hW.lt x hx) hA
  · rw [hs3, hv]
    exact rfl

set_option maxRecDepth 100000 in
/-- an argument that is an integer -/
theorem open_int {W : World} {base : Nat} {v : Value} {d : DataW H} {p : List MemPlace} (hv : Value.okWide Tryz.prog W .any base 24 v) (h : DataW.Trod enc Tryz.prog W 0 (fun _ => true) true 24 v d p) :
    ∃ ng A ws c, v = intV ng A ws.length c ∧ Sl W W.heap.size A c ws := by
  obtain ⟨c0, c1, y0, y1, n, rfl, rfl, rfl, h0, h1⟩ := Joins.open_agg2 Tryz.underlying24 (by kernel_rfl) cellsInt24 hv h
  obtain ⟨a, e0, _⟩ := DataW.trod_bool Tryz.underlying4 h0
  simp only [List.cons.injEq, and_true] at e0
  subst e0
  rcases open_ints Tryz.underlying22 Tryz.underlying88 cellsU32 h1 with ⟨e1, _⟩ | ⟨ad, len, cap, zs, e1, _, hl, _, hz, _, hc, hw⟩
  · simp only [List.cons.injEq, and_true] at e1
    subst e1
    exact ⟨a, none, [], 0, rfl, Sl.nil _ _⟩
  · simp only [List.cons.injEq, and_true] at e1
    subst e1
    have hzl : zs.length = cap := by simpa using hz
    have hwz : ∀ i, i < zs.length → 0 ≤ zs.getD i 0 ∧ zs.getD i 0 < 4294967296 := fun i hi => by
      have h2 := hw (zs.getD i 0) (by rw [List.getD_eq_getElem?_getD, List.getElem?_eq_getElem hi]; exact List.getElem_mem hi)
      have := (show 0 ≤ zs.getD i 0 ∧ zs.getD i 0 ≤ 4294967295 by simpa [Lit.wf, IntKind.min, IntKind.max, IntKind.signed, IntKind.bits] using h2)
      omega
    obtain ⟨ws, hws⟩ : ∃ ws : List Nat, ws = (List.range len).map fun i => (zs.getD i 0).toNat := ⟨_, rfl⟩
    have hlen : ws.length = len := by rw [hws]; simp
    have hget : ∀ i, i < len → ws[i]? = some (zs.getD i 0).toNat := fun i hi => by rw [hws, List.getElem?_map, List.getElem?_range hi]; rfl
    refine ⟨a, some ad, ws, cap, by rw [hlen], ⟨⟨⟨fun hp => ?_⟩⟩, ?_, by rw [hlen]; exact hl, fun e => by cases e⟩⟩
    · have hp' : 0 < len := by rw [List.length_map, hlen] at hp; exact hp
      obtain ⟨b, off, rfl, hc'⟩ := ints_at hc (by omega)
      refine ⟨b, off, rfl, World.block_lt_of_cell? W _ (hc' 0 (by omega)), fun k u hu => ?_⟩
      have hk : k < len := by
        have := (List.getElem?_eq_some_iff.1 hu).1
        rw [List.length_map, hlen] at this; exact this
      rw [List.getElem?_map, hget k hk] at hu
      simp only [Option.map_some, Option.some.injEq] at hu
      subst hu
      rw [hc' k (by omega), Int.toNat_of_nonneg (hwz k (by omega)).1]
    · intro x hx
      rw [hws] at hx
      obtain ⟨i, hi, rfl⟩ := List.mem_map.1 hx
      have := hwz i (by have := List.mem_range.1 hi; omega)
      omega
end

/-- math/bits.deBruijn32tab -/
def tab32 : List Nat := [0, 1, 28, 2, 29, 14, 24, 3, 30, 22, 20, 15, 25, 17, 4, 8, 31, 27, 13, 23, 21, 19, 16, 7, 26, 12, 18, 6, 11, 5, 10, 9]
/-- the tables that a row lists, as it lists them -/
theorem tabs_of_laid {W : World} {rest : List (String × DataW Unit)} (h : laidMet Tryz.prog (("math/bits.deBruijn32tab", Rows.laid_math_bits_deBruijn32tab) :: ("math/bits.deBruijn64tab", Rows.laid_math_bits_deBruijn64tab) :: ("internal/strconv.uint64pow10", Rows.laid_internal_strconv_uint64pow10) :: rest) W) : Tabs W := by
  have t2 : Lib.TabIs Tryz.prog W "internal/strconv.uint64pow10" .u64 Lib.pow10Tab := Lib.tabIs_of_head gPow (by kernel_rfl) Tryz.underlying151 Tryz.underlying82 cellsU64 (by kernel_rfl) h.tail.tail
  exact ⟨t2, World.block_lt_of_cell? W _ (t2.cell gPow 0 (by decide))⟩

/-- other cells in a block -/
def putCells (cs : Array Value) : Obj → Obj
  | .cells _ t fr => .cells cs t fr
  | o => o
/-- a start: the settled world, the three tables as their initialisers lay them -/
noncomputable def laidWorld (os : Os) : World :=
  { World.holding Tryz.prog os ⟨#[], #[], []⟩ with heap := (((World.holding Tryz.prog os ⟨#[], #[], []⟩).heap.modify 9 (putCells (Lib.deBruijn64tab.map fun (x : Nat) => Value.int .u8 (x : Int)).toArray)).modify 8 (putCells (tab32.map fun (x : Nat) => Value.int .u8 (x : Int)).toArray)).modify 3 (putCells (Lib.pow10Tab.map fun x => Value.int .u64 x).toArray) }
end Go.Proofs.YtkpomjdablopaaaGreatDoor
/- Plain laws of fractions: what divInt's parts are, for core's Rat. -/
namespace Go.Proofs.YtkpomjdablopaaaGreatDoor
set_option linter.unusedVariables false

theorem rq_parts {n d : Int} (h : 0 < d) : (Rat.divInt n d).num = n.fdiv (Nat.gcd n.natAbs d.natAbs : Int) ∧ ((Rat.divInt n d).den : Int) = d.fdiv (Nat.gcd n.natAbs d.natAbs : Int) := by
  obtain ⟨k, rfl⟩ : ∃ k : Nat, d = (k : Int) := ⟨d.toNat, by omega⟩
  have hk : k ≠ 0 := by omega
  rw [Rat.divInt_ofNat, ← Rat.normalize_eq_mkRat hk, Rat.normalize_eq, Int.natAbs_natCast]
  dsimp only
  rw [Int.fdiv_eq_ediv_of_nonneg _ (by omega), Int.fdiv_eq_ediv_of_nonneg _ (by omega)]
  exact ⟨rfl, rfl⟩
theorem rq_num_le {n d : Int} (h : d ≠ 0) : (Rat.divInt n d).num.natAbs ≤ n.natAbs ∧ (Rat.divInt n d).den ≤ d.natAbs := by
  obtain ⟨m, hm, e1, e2⟩ := Rat.divInt_num_den (n' := (Rat.divInt n d).num) (d' := (Rat.divInt n d).den) (z' := (Rat.divInt n d).den_nz) (c := (Rat.divInt n d).reduced) h rfl
  have hm1 : 1 ≤ m.natAbs := by omega
  constructor
  · calc (Rat.divInt n d).num.natAbs ≤ (Rat.divInt n d).num.natAbs * m.natAbs := Nat.le_mul_of_pos_right _ hm1
      _ = n.natAbs := by rw [← Int.natAbs_mul, ← e1]
  · calc (Rat.divInt n d).den ≤ (Rat.divInt n d).den * m.natAbs := Nat.le_mul_of_pos_right _ hm1
      _ = d.natAbs := by
        have := congrArg Int.natAbs e2
        rw [Int.natAbs_mul, Int.natAbs_natCast] at this
        exact this.symm
theorem rq_sign (n d : Int) : (Rat.divInt n d).num.sign = n.sign * d.sign := by
  by_cases h : d = 0
  · subst h; rw [Rat.divInt_zero]; simp
  · obtain ⟨m, hm, e1, e2⟩ := Rat.divInt_num_den (n' := (Rat.divInt n d).num) (d' := (Rat.divInt n d).den) (z' := (Rat.divInt n d).den_nz) (c := (Rat.divInt n d).reduced) h rfl
    have hd : ((Rat.divInt n d).den : Int).sign = 1 := Int.sign_eq_one_of_pos (by have := (Rat.divInt n d).den_nz; omega)
    have s1 := congrArg Int.sign e1
    have s2 := congrArg Int.sign e2
    rw [Int.sign_mul] at s1 s2
    rw [s1, s2, hd, Int.one_mul, Int.mul_assoc]
    have : m.sign * m.sign = 1 := by
      rcases Int.lt_or_gt_of_ne hm with h0 | h0
      · rw [Int.sign_eq_neg_one_of_neg h0]; rfl
      · rw [Int.sign_eq_one_of_pos h0]; rfl
    rw [this, Int.mul_one]
theorem rq_lt {a b c d : Int} (hb : 0 < b) (hd : 0 < d) : Rat.divInt a b < Rat.divInt c d ↔ a * d < c * b := by
  have e : Rat.divInt c d - Rat.divInt a b = Rat.divInt (c * b - a * d) (d * b) := Rat.divInt_sub_divInt c a (by omega) (by omega)
  have h2 : 0 < d * b := Int.mul_pos hd hb
  have := @Rat.divInt_nonneg_iff_of_pos_right (-(c * b - a * d)) (d * b) h2
  rw [← Rat.neg_divInt, ← e] at this
  rw [← Rat.not_le]
  have e2 : (0 ≤ -(Rat.divInt c d - Rat.divInt a b)) ↔ Rat.divInt c d ≤ Rat.divInt a b := by
    rw [Rat.neg_sub, Rat.le_iff_sub_nonneg (Rat.divInt c d)]
  rw [← e2, this]
  omega
theorem rq_one (n : Int) : Rat.divInt 0 1 = 0 := by rw [Rat.zero_divInt]
theorem rq_den_pos (z : Rat) : (0 : Int) < (z.den : Int) := by have := z.den_nz; omega
theorem rq_self (z : Rat) : Rat.divInt z.num (z.den : Int) = z := Rat.num_divInt_den z
end Go.Proofs.YtkpomjdablopaaaGreatDoor
/- Walks: the reference's mulWords. -/
namespace Go.Proofs.YtkpomjdablopaaaGreatDoor
open Go.RowKit
set_option linter.unusedVariables false

theorem Kn.val_drop_step (l : List Nat) {k : Nat} (h : k < l.length) : Kn.val (l.drop k) = l.getD k 0 + 4294967296 * Kn.val (l.drop (k + 1)) := by
  rw [List.drop_eq_getElem_cons h, Kn.val_cons, List.getD_eq_getElem?_getD, List.getElem?_eq_getElem h]; rfl

/-- the world of a round: two lists of words and the product so far -/
structure Mu (w wr : World) (A : Option Addr) (ca : Nat) (a : List Nat) (B : Option Addr) (cb : Nat) (b : List Nat) (C : Option Addr) (cc : Nat) (o : List Nat) : Prop where
  a : Sl wr wr.heap.size A ca a
  b : Sl wr wr.heap.size B cb b
  o : Sl wr wr.heap.size C cc o
  bel : Below w.heap.size w wr
section
variable {w wr wx : World} {A B C : Option Addr} {ca cb cc : Nat} {a b o : List Nat}
theorem Mu.below (h : Mu w wr A ca a B cb b C cc o) (hb : Below wr.heap.size wr wx) : Mu w wx A ca a B cb b C cc o :=
  ⟨h.a.at_ hb (Nat.le_refl _), h.b.at_ hb (Nat.le_refl _), h.o.at_ hb (Nat.le_refl _), h.bel.trans (hb.mono h.bel.size)⟩
theorem Mu.alloc (h : Mu w wr A ca a B cb b C cc o) (x : Obj) : Mu w (wr.alloc x) A ca a B cb b C cc o := h.below (al1 _ _)
theorem Mu.drew (h : Mu w wr A ca a B cb b C cc o) : Mu w wr.drew A ca a B cb b C cc o := h.below (bDrew (Below.refl _ _) 1)
end
theorem Mu.cell {w wr : World} {A C : Option Addr} {ca cb cc bb off j x : Nat} {a b o : List Nat} (h : Mu w wr A ca a (some ⟨bb, off, none⟩) cb b C cc o) (hj : j < b.length) (hx : Hid (x = b.getD j 0)) : wr.cell? ⟨bb, off + j, none⟩ = some (.int .u32 (x : Int)) := by
  obtain ⟨b1, o1, y, e, _, hc, hy, _⟩ := h.b.word hj
  injection e with e
  injection e with e1 e2
  subst e1 e2
  rw [hc, hy.out, hx.out]
theorem Sl.nx {w w' : World} {A : Option Addr} {c : Nat} {ws : List Nat} (h : Sl w w.heap.size A c ws) (hb : Below w.heap.size w w') : Sl w' w'.heap.size A c ws := h.at_ hb (Nat.le_refl _)
/-- a world that grew by an append that made a new row -/
theorem grown_below {w w' : World} (h : w.grownBy w' none) : Below w.heap.size w w' := ⟨h.os, h.tape, h.output, h.size, fun k hk => h.block k hk (by simp)⟩
theorem hold_one {W : World} {g : Nat} {v : Value} (h : W.cell? ⟨g, 0, none⟩ = some v) : ∀ b, (some ⟨g, 0, none⟩ : Option Addr) = some b → ∀ j u, [v][j]? = some u → W.cell? (b.add j) = some u := by
  intro b e j u hu
  injection e with e
  subst e
  have hj : j = 0 := by have := (List.getElem?_eq_some_iff.1 hu).1; simpa using this
  subst hj
  have : v = u := by simpa using hu
  subst this
  have e2 : (⟨g, 0, none⟩ : Addr).add 0 = ⟨g, 0, none⟩ := by unfold Addr.add; split <;> simp_all
  rw [e2]; exact h
theorem sl_one {W : World} {g x : Nat} (h : W.cell? ⟨g, 0, none⟩ = some (.int .u32 (x : Int))) (hx : x < 4294967296) : Sl W W.heap.size (some ⟨g, 0, none⟩) 1 [x] :=
  ⟨⟨⟨fun _ => ⟨g, 0, rfl, World.block_lt_of_cell? W _ h, fun k u hu => by
    have hk : k = 0 := by have := (List.getElem?_eq_some_iff.1 hu).1; simpa using this
    subst hk
    have : u = Value.int .u32 (x : Int) := by simpa using hu.symm
    rw [this]; exact h⟩⟩⟩, Kn.Wd.cons hx Kn.Wd.nil, Nat.le_refl _, fun e => by cases e⟩
theorem news_of {W : World} {b off c : Nat} {l : List Nat} (h : Sl W W.heap.size (some ⟨b, off, none⟩) c l) : ∀ j u, (u32s l)[j]? = some u → W.cell? ((⟨b, off, none⟩ : Addr).add j) = some u := by
  intro j u hu
  have hj := (List.getElem?_eq_some_iff.1 hu).1
  rw [u32s_len] at hj
  obtain ⟨b', off', e, hb, hc⟩ := h.nums.row.cells (by rw [List.length_map]; omega)
  injection e with e
  injection e with e1 e2
  subst e1 e2
  rw [Go.WideShapes.add_plain]
  exact hc j u hu
theorem new0 (W : World) : (W.alloc (.cells #[.int .u32 0] 88)).cell? ⟨W.heap.size, 0, none⟩ = some (.int .u32 0) := by
  rw [cell_of_row _ _ 0 _ _ _ (heap_alloc_new W _)]; rfl

set_option maxRecDepth 100000 in
set_option maxHeartbeats 4000000 in
theorem rmulWords_any (A : Option Addr) (ca : Nat) (a : List Nat) (B : Option Addr) (cb : Nat) (b : List Nat) (w : World) (ha : Sl w w.heap.size A ca a) (hb : Sl w w.heap.size B cb b) (hla : a.length ≤ 1000000) (hlb : b.length ≤ 1000000) :
    Calls Tryz.prog 114 #[.slice A a.length ca, .slice B b.length cb] w (MagRes (Kn.val a * Kn.val b) w) := by
  obtain ⟨i0, hi, hz0, hz1, hz2⟩ := info_parts infoU32
  have HW := Lib.hid (Kn.val_lt ha.wd)
  have HWB := Lib.hid hb.wd
  go_enter Tryz.func114, Tryz.ntmps114
  go_wp2_with fail
  have M0 : Mu w (w.alloc (.cells #[] 88)) A ca a B cb b (some ⟨w.heap.size, 0, none⟩) 0 [] := by
    refine ⟨ha.nx (al1 _ _), hb.nx (al1 _ _), ⟨Nums.nil _ _ _ _, Kn.Wd.nil, Nat.zero_le _, fun e => by cases e⟩, al1 _ _⟩
  go_loopw [5, 6] (fun ov iv wr => ∃ (z : Int) (k N : Nat) (C : Option Addr) (cc : Nat), k ≤ b.length ∧ iv = .int .i64 z ∧ Hid (z = (k : Int) - 1) ∧ -1 ≤ z ∧ z ≤ 1000000 ∧ ov = .slice C (Kn.dig N).length cc ∧ Hid (N = Kn.val a * Kn.val (b.drop k)) ∧ Mu w wr A ca a B cb b C cc (Kn.dig N)) (fun _ iv _ => (intOf iv + 1).toNat)
  case atStart => exact ⟨_, b.length, 0, some ⟨w.heap.size, 0, none⟩, 0, Nat.le_refl _, rfl, Lib.hid rfl, by omega, by omega, by rw [Kn.dig_zero]; rfl, Lib.hid (by rw [List.drop_length, Kn.val_nil, Nat.mul_zero]), by rw [Kn.dig_zero]; exact M0⟩
  case round =>
    clear M0 ha hb
    obtain ⟨z, k, N, C, cc, hk, rfl, hz, hz3, hz4, rfl, HN, M⟩ := hrel
    by_cases hz0' : 0 ≤ z
    · obtain ⟨j, rfl⟩ : ∃ j : Nat, z = (j : Int) := ⟨z.toNat, by omega⟩
      obtain rfl : k = j + 1 := by have := hz.out; omega
      have hj : j < b.length := by omega
      have hjI : (j : Int) < (b.length : Int) := by omega
      have hNl : (Kn.dig N).length ≤ 2000000 := by
        refine Nat.le_trans (Kn.dig_len_le (k := a.length + (b.drop (j + 1)).length) ?_) (by rw [List.length_drop]; omega)
        rw [HN.out, Kn.pw_add]
        exact Nat.mul_lt_mul'' HW.out (Kn.val_lt (HWB.out.drop _))
      obtain ⟨bb, off, x, rfl, hbb, hcx, hx, hxl⟩ := M.b.word hj
      have HX : Hid (0 + 4294967296 * N + Kn.val a * x = Kn.val a * Kn.val (b.drop j)) := Lib.hid (by
        rw [Kn.val_drop_step b hj, ← hx.out, HN.out, Nat.mul_add, Nat.mul_left_comm]; omega)
      obtain ⟨T, hT⟩ : ∃ T, Hid (T = Kn.val a * x) := ⟨_, Lib.hid rfl⟩
      have hTl : (Kn.dig T).length ≤ 2000000 := by
        refine Nat.le_trans (Kn.dig_len_le (k := a.length + 1) ?_) (by omega)
        rw [hT.out, Kn.pw_add]
        exact Nat.mul_lt_mul'' HW.out (by rw [Kn.pw_succ, Kn.pw_zero]; omega)
      have HTM := Lib.hid (fun (W : World) (h : Sl W W.heap.size A ca a) => (by have := rtimesWord_any A ca a x W h (by omega) (by omega); rwa [← hT.out] at this : Calls Tryz.prog 110 #[.slice A a.length ca, .int .u64 (x : Int)] W (MagRes T W)))
      have HWD : Hid (Kn.Wd (Kn.dig N)) := Lib.hid (Kn.dig_wd N)
      by_cases hN0 : N = 0
      · subst hN0
        rw [Kn.dig_zero] at M ⊢
        have HAD := Lib.hid (fun (W : World) (g : Nat) (E : Option Addr) (ce : Nat) (h1 : W.cell? ⟨g, 0, none⟩ = some (.int .u32 0)) (h2 : Sl W W.heap.size E ce (Kn.dig T)) => (by have := raddWords_any (some ⟨g, 0, none⟩) 1 [0] E ce (Kn.dig T) W (sl_one h1 (by decide)) h2 (by simp) (by omega); rw [Kn.val_one, Kn.val_dig, Nat.zero_add] at this; exact this : Calls Tryz.prog 113 #[.slice (some ⟨g, 0, none⟩) 1 1, .slice E (Kn.dig T).length ce] W (MagRes T W)))
        have HN9 : Hid (T = Kn.val a * Kn.val (b.drop j)) := Lib.hid (by rw [← HX.out, hT.out]; omega)
        go_wp2_with fail
        clear hcx
        have ex : IntKind.u64.wrap (x : Int) = (x : Int) := wrap_nat (by omega)
        have n0 : (wr.alloc (.cells #[.int .u32 0] 88)).drew.cell? ⟨wr.heap.size, 0, none⟩ = some (.int .u32 0) := new0 wr
        cases C
        all_goals
          go_region_held3 (fun w' => w'.cell? ⟨bb, off + j, none⟩ = some (.int .u32 (x : Int)))
            (first | exact M.drew.cell hj hx | exact (M.alloc _).drew.cell hj hx | exact M.cell hj hx)
            (first
              | (go_at_call 110; (with_reducible refine (HTM.out _ (M.alloc _).drew.a).mono ?_); rintro e w' ⟨At, ct, rfl, hT2, hb⟩; have kz := (hb.cell (p := ⟨wr.heap.size, 0, none⟩) (by simp)).trans n0; replace M := (M.alloc _).drew.below hb; clear hb)
              | (go_at_call 113; (with_reducible refine (HAD.out _ _ _ _ kz hT2).mono ?_); rintro e w9 ⟨A9, c9, rfl, hR, hb9⟩; replace M := M.below hb9; clear hb9))
          have M9 : Mu w w9 A ca a (some ⟨bb, off, none⟩) cb b A9 c9 (Kn.dig T) := ⟨M.a, M.b, hR, M.bel⟩
          go_wp2_with fail
          go_roundw
          case rel => exact ⟨(j : Int) - 1, j, T, A9, c9, by omega, by go_num, Lib.hid rfl, by omega, by omega, rfl, HN9, M9⟩
          case measure => simp [intOf]
      · have hNp : 0 < (Kn.dig N).length := Kn.dig_len_pos.2 (by omega)
        obtain ⟨bo, oo, hCe, _, _⟩ := M.o.nums.row.cells (by rw [List.length_map]; exact hNp)
        subst hCe
        have HVA : Hid (Kn.val (0 :: Kn.dig N) = 4294967296 * N) := Lib.hid (by rw [Kn.val_cons, Kn.val_dig]; omega)
        have HWO : Hid (Kn.Wd (0 :: Kn.dig N)) := Lib.hid (Kn.Wd.cons (by decide) HWD.out)
        have HON : Hid (u32s (0 :: Kn.dig N) = [Value.int .u32 0] ++ u32s (Kn.dig N)) := Lib.hid rfl
        have hlm := Lib.hid (show (u32s (Kn.dig N)).length = (Kn.dig N).length * 1 by rw [u32s_len, Nat.mul_one])
        have HAD := Lib.hid (fun (W : World) (D : Option Addr) (cd : Nat) (E : Option Addr) (ce : Nat) (h1 : Sl W W.heap.size D cd (0 :: Kn.dig N)) (h2 : Sl W W.heap.size E ce (Kn.dig T)) => (by have := raddWords_any D cd (0 :: Kn.dig N) E ce (Kn.dig T) W h1 h2 (by simp; omega) (by omega); rw [HVA.out, Kn.val_dig, show (0 :: Kn.dig N).length = 1 + (Kn.dig N).length by simp; omega] at this; exact this : Calls Tryz.prog 113 #[.slice D (1 + (Kn.dig N).length) cd, .slice E (Kn.dig T).length ce] W (MagRes (4294967296 * N + T) W)))
        have HSL := Lib.hid (fun (W : World) (g : Nat) (D : Option Addr) (cd : Nat) (h1 : W.ownsRow g 88 1 (.slice D (1 + (Kn.dig N).length) cd) (1 + (Kn.dig N).length) ([Value.int .u32 0] ++ u32s (Kn.dig N))) (h2 : 1 + (Kn.dig N).length ≤ cd) => (Sl.of_own (l := 0 :: Kn.dig N) h1 HWO.out h2 (by simp; omega) : Sl W W.heap.size D cd (0 :: Kn.dig N)))
        clear hN0
        go_wp2_with fail
        clear hcx
        have ex : IntKind.u64.wrap (x : Int) = (x : Int) := wrap_nat (by omega)
        have n0 : (wr.alloc (.cells #[.int .u32 0] 88)).drew.cell? ⟨wr.heap.size, 0, none⟩ = some (.int .u32 0) := new0 wr
        go_region_held3 (fun w' => w'.cell? ⟨bb, off + j, none⟩ = some (.int .u32 (x : Int)))
          (first | exact M.drew.cell hj hx | exact (M.alloc _).drew.cell hj hx | exact M.cell hj hx)
          (first
            | (go_at_call 110; (with_reducible refine (HTM.out _ M.a).mono ?_); rintro e w' ⟨At, ct, rfl, hT2, hb⟩; replace M := M.below hb; replace hS := hS.nx hb; clear hb)
            | (go_at_call 113; (with_reducible refine (HAD.out _ _ _ _ _ hS hT2).mono ?_); rintro e w9 ⟨A9, c9, rfl, hR, hb9⟩; replace M := M.below hb9; clear hb9)
            | ((refine step_append_grows (by rfl) (.tmp 15) (.tmp 16) 22 (by rfl) 88 i0 (.int .u32 0) 1 4 Tryz.underlying22 hi hz0 hz1 hz2 rfl (by decide) (some ⟨wr.heap.size, 0, none⟩) 1 1 [.int .u32 0] (by rfl) (by simp) (by rfl) (hold_one n0) ⟨bo, oo, none⟩ (Kn.dig N).length cc (u32s (Kn.dig N)) (by rfl) hlm.out (news_of (M.alloc _).drew.o) (u32s_one _) (by omega) (by unfold maxLen; omega) (by omega) ?_; intro v' w8 hown8 hgrow; have hb8 := grown_below hgrow; replace M := (M.alloc _).drew.below hb8; obtain ⟨A8, c8, rfl, hc8⟩ := own_slice hown8; have hS := HSL.out _ _ _ _ hown8 hc8; clear hown8 hgrow hb8)))
        have M9 : Mu w w9 A ca a (some ⟨bb, off, none⟩) cb b A9 c9 (Kn.dig (4294967296 * N + T)) := ⟨M.a, M.b, hR, M.bel⟩
        have HN9 : Hid (4294967296 * N + T = Kn.val a * Kn.val (b.drop j)) := Lib.hid (by rw [← HX.out, hT.out]; omega)
        go_wp2_with fail
        go_roundw
        case rel => exact ⟨(j : Int) - 1, j, 4294967296 * N + T, A9, c9, by omega, by go_num, Lib.hid rfl, by omega, by omega, rfl, HN9, M9⟩
        case measure => simp [intOf]
    · obtain rfl : k = 0 := by have := hz.out; omega
      have HE : Hid (N = Kn.val a * Kn.val b) := Lib.hid (by have := HN.out; rwa [List.drop_zero] at this)
      go_wp2_with fail
      go_ret
      exact ⟨C, cc, by rw [← HE.out]; rfl, by rw [← HE.out]; exact M.o, M.bel⟩
end Go.Proofs.YtkpomjdablopaaaGreatDoor
