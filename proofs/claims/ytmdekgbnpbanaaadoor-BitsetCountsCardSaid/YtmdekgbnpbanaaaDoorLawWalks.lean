/- The law BitsetWalks, walked: a set is the set of its members, and Next visits them in ascending order. -/
import Derived.Test.YtmdekgbnpbanaaaDoorLawSizes
import Derived.Test.YtmdekgbnpbanaaaDoorWj
namespace Go.Proofs.YtmdekgbnpbanaaaDoor
open Go.RowKit Go.Sort
set_option linter.unusedVariables false

namespace Kb
/-- member k of a list, -1 behind its end -/
def mAt (L : List Nat) (k : Nat) : Int := if k < L.length then ((L.getD k 0 : Nat) : Int) else -1

theorem membersTo_mem {f : Nat → Bool} {n x : Nat} : x ∈ membersTo f n ↔ x < n ∧ f x = true := by
  unfold membersTo; rw [List.mem_filter, List.mem_range]
theorem membersTo_prefix (f : Nat → Bool) {a n : Nat} (h : a ≤ n) : ∃ r, membersTo f n = membersTo f a ++ r := by
  induction n with
  | zero => obtain rfl : a = 0 := by omega
            exact ⟨[], by simp⟩
  | succ n ih =>
    by_cases e : a = n + 1
    · exact ⟨[], by rw [e]; simp⟩
    · obtain ⟨r, hr⟩ := ih (by omega)
      exact ⟨r ++ (if f n then [n] else []), by rw [membersTo_succ, hr, List.append_assoc]⟩
theorem membersTo_nodup (f : Nat → Bool) (n : Nat) : (membersTo f n).Nodup := by
  unfold membersTo; exact List.Pairwise.filter _ List.nodup_range
/-- up to member k and with it: k + 1 members -/
theorem membersTo_upto {f : Nat → Bool} {n k : Nat} (hk : k < (membersTo f n).length) : (membersTo f ((membersTo f n).getD k 0 + 1)).length = k + 1 := by
  obtain ⟨x, hx⟩ : ∃ x, (membersTo f n)[k]? = some x := ⟨_, List.getElem?_eq_getElem hk⟩
  rw [show (membersTo f n).getD k 0 = x by rw [List.getD_eq_getElem?_getD, hx]; rfl]
  obtain ⟨h1, h2⟩ := membersTo_mem.1 (List.mem_of_getElem? hx)
  obtain ⟨r, hr⟩ := membersTo_prefix f (show x + 1 ≤ n by omega)
  rw [membersTo_succ, h2, if_pos rfl] at hr ⊢
  have hg : (membersTo f n)[(membersTo f x).length]? = some x := by rw [hr]; simp
  have hn := List.pairwise_iff_getElem.1 (membersTo_nodup f n)
  obtain ⟨hp, ep⟩ := List.getElem?_eq_some_iff.1 hg
  obtain ⟨hk', ek⟩ := List.getElem?_eq_some_iff.1 hx
  have : (membersTo f x).length = k := by
    rcases Nat.lt_trichotomy (membersTo f x).length k with h | h | h
    · exact absurd (ep.trans ek.symm) (hn _ _ hp hk' h)
    · exact h
    · exact absurd (ek.trans ep.symm) (hn _ _ hk' hp h)
  rw [List.length_append, this]; rfl
theorem next_first (f : Nat → Bool) (n : Nat) : nextFrom f n 0 = mAt (membersTo f n) 0 := by
  unfold mAt
  rcases nextFrom_cases f n 0 with ⟨h1, h2⟩ | ⟨j, h1, _, h3, h4, h5⟩
  · rw [h1, membersTo_skip f 0 n (Nat.zero_le _) h2]; rfl
  · obtain ⟨r, hr⟩ := membersTo_prefix f (show j + 1 ≤ n by omega)
    rw [membersTo_succ, h4, if_pos rfl, membersTo_skip f 0 j (Nat.zero_le _) h5] at hr
    rw [h1, hr]
    simp [membersTo]
theorem next_member {f : Nat → Bool} {n k : Nat} (hk : k < (membersTo f n).length) : nextFrom f n ((membersTo f n).getD k 0 + 1) = mAt (membersTo f n) (k + 1) := by
  have hu := membersTo_upto hk
  have hx : (membersTo f n).getD k 0 < n := by
    have hx : (membersTo f n).getD k 0 = (membersTo f n)[k] := by rw [List.getD_eq_getElem?_getD, List.getElem?_eq_getElem hk]; rfl
    rw [hx]; exact (membersTo_mem.1 (List.getElem_mem hk)).1
  generalize (membersTo f n).getD k 0 = x at *
  unfold mAt
  rcases nextFrom_cases f n (x + 1) with ⟨h1, h2⟩ | ⟨j, h1, h2, h3, h4, h5⟩
  · rw [h1, membersTo_skip f (x + 1) n (by omega) h2, hu, if_neg (by omega)]
  · obtain ⟨r, hr⟩ := membersTo_prefix f (show j + 1 ≤ n by omega)
    rw [membersTo_succ, h4, if_pos rfl, membersTo_skip f (x + 1) j h2 h5] at hr
    rw [h1, hr, if_pos (by simp; omega)]
    rw [List.getD_eq_getElem?_getD, List.getElem?_append_left (by simp; omega), List.getElem?_append_right (by omega), hu]
    simp
/-- the set of its members -/
theorem members_mk (f : Nat → Bool) (n : Nat) : mkWords n (memB ((membersTo f n).map fun (x : Nat) => (x : Int))) = mkWords n f := by
  refine mkWords_congr fun i hi => ?_
  rw [Bool.eq_iff_iff]
  unfold memB
  rw [List.any_eq_true]
  constructor
  · rintro ⟨z, hz, e⟩
    obtain ⟨x, hx, rfl⟩ := List.mem_map.1 hz
    have : x = i := by have := (beq_iff_eq.1 e); omega
    rw [← this]; exact (membersTo_mem.1 hx).2
  · intro h
    exact ⟨(i : Int), List.mem_map.2 ⟨i, membersTo_mem.2 ⟨hi, h⟩, rfl⟩, by simp⟩
end Kb

theorem ints_of_own {w : World} {base : Nat} {A : Option Addr} {c : Nat} {L : List Nat} (h : w.ownsRow base 3 1 (.slice A L.length c) L.length (icells L)) (hL : ∀ x ∈ L, x ≤ 4096) : Ints w w.heap.size A (L.map fun (x : Nat) => (x : Int)) where
  row := by
    have e : (L.map fun (x : Nat) => (x : Int)).map (fun x => Value.int .i64 x) = icells L := by simp [icells]
    rw [e]
    exact Row.of_own h
  lo := fun x hx => by
    obtain ⟨y, hy, rfl⟩ := List.mem_map.1 hx
    have := hL y hy
    omega

/-- the law's world: the set's box, the members -/
structure WkInv (w wr : World) (x y : Value) (A : Option Addr) (zs : List Int) : Prop where
  t : Two wr w.heap.size x y
  zs : Ints wr wr.heap.size A zs
  bel : Below w.heap.size w wr
theorem WkInv.below {w wr wx : World} {x y : Value} {A : Option Addr} {zs : List Int} (h : WkInv w wr x y A zs) (hb : Below wr.heap.size wr wx) : WkInv w wx x y A zs :=
  ⟨h.t.below hb h.t.lt, (h.zs.below hb).more hb.size, h.bel.trans (hb.mono h.bel.size)⟩
theorem WkInv.alloc {w wr : World} {x y : Value} {A : Option Addr} {zs : List Int} (h : WkInv w wr x y A zs) (o : Obj) : WkInv w (wr.alloc o) x y A zs :=
  ⟨h.t.alloc o, (h.zs.alloc (Nat.le_refl _) o).more (by simp), h.bel.alloc h.bel.size o⟩

set_option maxRecDepth 100000 in
set_option maxHeartbeats 4000000 in
theorem walks_walk (sa : Int) (A : Option Addr) (ca : Nat) (wa : List Nat) (w : World) (ha : Words w w.heap.size A wa) (ht : Tabs w) :
    Calls Tryd.prog 11 #[setV sa A wa.length ca] w fun e w' => e = .returned (.bool true) ∧ Below w.heap.size w w' := by
  unfold setV
  go_enter Tryd.func11, Tryd.ntmps11
  go_wp2_with fail
  have t1 : Two (w.alloc (.cells #[.int .i64 sa, .slice A wa.length ca] 24)) w.heap.size (.int .i64 sa) (.slice A wa.length ca) := Two.new_ _ _ _ _
  have B1 : Below w.heap.size w (w.alloc (.cells #[.int .i64 sa, .slice A wa.length ca] 24)) := (Below.refl _ _).alloc (Nat.le_refl _) _
  refine (known_ok _ (ht.below B1)).mono ?_
  rintro e w1 ⟨rfl, hb1⟩
  have t2 := t1.below hb1 t1.lt
  have B2 := B1.trans (hb1.mono B1.size)
  clear t1 B1 hb1
  have c10 := t2.c0
  have c11 := t2.c1
  by_cases h1 : 64 < wa.length
  · have h1' : (64 : Int) < (wa.length : Int) := by omega
    go_wp2_with fail
    go_ret
    exact ⟨rfl, B2⟩
  have h1' : ¬ (64 : Int) < (wa.length : Int) := by omega
  go_wp2_with fail
  refine (rvalid_any sa A ca wa _ ((ha.below B2).more B2.size) (by omega)).mono ?_
  rintro e w2 ⟨rfl, hb2⟩
  have t3 := t2.below hb2 t2.lt
  have B3 := B2.trans (hb2.mono B2.size)
  clear t2 B2 hb2 c10 c11
  have c10 := t3.c0
  have c11 := t3.c1
  cases hva : Kb.validB sa wa with
  | false =>
    go_wp2_with fail
    go_ret
    exact ⟨rfl, B3⟩
  | true =>
  obtain ⟨n, rfl⟩ := Int.eq_ofNat_of_zero_le ((Kb.validB_iff ha.lt).1 hva).1
  have hn : n ≤ 4096 := by have := ((Kb.validB_iff ha.lt).1 hva).2.1; omega
  have hok : Kb.Ok n wa := by simpa using ((Kb.validB_iff ha.lt).1 hva).2.2
  have hN := Lib.hid hn
  have hV := Lib.hid hva
  clear hn hva h1
  go_wp2_with fail
  clear h1'
  refine (members_ok n A ca wa _ ((ha.below B3).more B3.size) hok hN.out (ht.below B3)).mono ?_
  rintro e w3 ⟨A1, c1, rfl, hown, hb3⟩
  obtain ⟨L, hL⟩ : ∃ L, Hid (Kb.membersTo (Kb.bitAt wa) n = L) := ⟨_, Lib.hid rfl⟩
  rw [hL.out] at hown ⊢
  have hLm : Hid (∀ x ∈ L, x < n ∧ Kb.bitAt wa x = true) := Lib.hid (by rw [← hL.out]; exact fun x hx => Kb.membersTo_mem.1 hx)
  have hLl : L.length ≤ 4096 := by have := Kb.membersTo_le (Kb.bitAt wa) n; rw [hL.out] at this; have := hN.out; omega
  have hI := ints_of_own hown (fun x hx => by have := (hLm.out x hx).1; have := hN.out; omega)
  obtain ⟨zs, hzs⟩ : ∃ zs, Hid (L.map (fun (x : Nat) => (x : Int)) = zs) := ⟨_, Lib.hid rfl⟩
  rw [hzs.out] at hI
  have hzl : Hid (zs.length = L.length) := Lib.hid (by rw [← hzs.out]; simp)
  have t4 := t3.below hb3 t3.lt
  have K : WkInv w w3 (.int .i64 (n : Int)) (.slice A wa.length ca) A1 zs := ⟨t4, hI, B3.trans (hb3.mono B3.size)⟩
  clear hown hb3 t3 t4 B3 c10 c11 hI
  rw [← hzl.out]
  have hzL : zs.length ≤ 4096 := by rw [hzl.out]; exact hLl
  have c10 := K.t.c0
  have c11 := K.t.c1
  go_wp2_with fail
  refine (of_ok n hN.out A1 c1 zs _ K.zs (by omega) (by
    unfold inB
    rw [List.all_eq_true]
    intro z hz
    rw [← hzs.out] at hz
    obtain ⟨x, hx, rfl⟩ := List.mem_map.1 hz
    have := (hLm.out x hx).1
    simp; omega)).mono ?_
  rintro e w4 ⟨A2, c2, rfl, hW2, hb4⟩
  have hmk : Kb.mkWords n (memB zs) = wa := by rw [← hzs.out, ← hL.out, Kb.members_mk, ← hok.eq_mk]
  rw [hmk] at hW2 ⊢
  have K4 := K.below hb4
  clear K hb4 c10 c11
  have c10 := K4.t.c0
  have c11 := K4.t.c1
  have c12 := K4.t.lt
  unfold setV
  go_wp2_with fail
  have K5 := K4.alloc (.cells #[.int .i64 (n : Int), .slice A2 wa.length c2] 24)
  have t5 := Two.new_ w4 (.int .i64 (n : Int)) (.slice A2 wa.length c2) 24
  have hW5 := (hW2.alloc (Nat.le_refl _) (.cells #[.int .i64 (n : Int), .slice A2 wa.length c2] 24)).more (B' := (w4.alloc (.cells #[.int .i64 (n : Int), .slice A2 wa.length c2] 24)).heap.size) (by simp)
  clear K4 hW2 c10 c11 c12
  generalize hw5 : w4.alloc (.cells #[.int .i64 (n : Int), .slice A2 wa.length c2] 24) = w5 at K5 t5 hW5 ⊢
  clear hw5
  have hl : wa.length ≤ 140737488351232 := by rw [hok.len]; have := hN.out; unfold Kb.nw; omega
  refine (equal_any n A2 c2 wa n A ca wa _ hW5 ((ha.below K5.bel).more K5.bel.size) hl hl).mono ?_
  rintro e w6 ⟨rfl, hb6⟩
  rw [eqB_self, hV.out]
  have K6 := K5.below hb6
  clear K5 t5 hW5 hb6
  have c10 := K6.t.c0
  have c11 := K6.t.c1
  go_wp2_with fail
  refine (count_ex n A ca wa _ ((ha.below K6.bel).more K6.bel.size) hok hN.out).mono ?_
  rintro e w7 ⟨rfl, hb7⟩
  rw [show Kb.cnt (Kb.bitAt wa) n = zs.length by rw [hzl.out, ← hL.out]; rfl]
  have K7 := K6.below hb7
  clear K6 hb7 c10 c11
  have c10 := K7.t.c0
  have c11 := K7.t.c1
  go_wp2_with fail
  refine (least_ok n A ca wa _ ((ha.below K7.bel).more K7.bel.size) hok hN.out (ht.below K7.bel)).mono ?_
  rintro e w8 ⟨rfl, hb8⟩
  have K8 := K7.below hb8
  clear K7 hb8 c10 c11
  rw [Kb.next_first, hL.out]
  go_wp2_with fail
  go_loopw [6, 48] (fun av kv wr => ∃ (k : Nat) (a : Int), k ≤ zs.length ∧ kv = .int .i64 k ∧ av = .int .i64 a ∧ Hid (a = Kb.mAt L k) ∧ WkInv w wr (.int .i64 (n : Int)) (.slice A wa.length ca) A1 zs) (fun _ kv _ => zs.length - (intOf kv).toNat)
  case atStart => exact ⟨0, _, Nat.zero_le _, rfl, rfl, Lib.hid rfl, K8⟩
  case round =>
    obtain ⟨k, a, hk, rfl, rfl, haT, K⟩ := hrel
    clear K8
    have c10 := K.t.c0
    have c11 := K.t.c1
    by_cases hlt : k < zs.length
    · have hkL : k < L.length := by rw [← hzl.out]; exact hlt
      obtain ⟨b, off, x, rfl, hbb, hc, hx⟩ := K.zs.at_ hlt
      have hxv : Hid (x = ((L.getD k 0 : Nat) : Int)) := Lib.hid (by
        rw [hx.out.1, ← hzs.out, List.getD_eq_getElem?_getD, List.getElem?_map, List.getElem?_eq_getElem hkL, List.getD_eq_getElem?_getD, List.getElem?_eq_getElem hkL]; rfl)
      have hax : a = x := by rw [haT.out, hxv.out]; unfold Kb.mAt; rw [if_pos hkL]
      subst hax
      obtain ⟨m, hm⟩ : ∃ m : Nat, Hid (m = L.getD k 0) := ⟨_, Lib.hid rfl⟩
      obtain rfl : a = (m : Int) := by rw [hm.out]; exact hxv.out
      have hmem : m < n ∧ Kb.bitAt wa m = true := hLm.out m (by rw [hm.out, List.getD_eq_getElem?_getD, List.getElem?_eq_getElem hkL]; exact List.getElem_mem hkL)
      have hH : Hid (hasB n wa (m : Int) = true) := Lib.hid (by rw [hasB_in hV.out hmem.1]; exact hmem.2)
      have hM := Lib.hid hmem
      clear hmem
      go_wp2_with fail
      refine (has_any n A ca wa m _ ((ha.below K.bel).more K.bel.size) hl).mono ?_
      rintro e w9 ⟨rfl, hb9⟩
      rw [hH.out]
      have K9 := K.below hb9
      clear K hb9 c10 c11 hc
      have c10 := K9.t.c0
      have c11 := K9.t.c1
      go_wp2_with fail
      refine (next_ok n A ca wa m _ ((ha.below K9.bel).more K9.bel.size) hok hN.out (by omega) (ht.below K9.bel)).mono ?_
      rintro e w10 ⟨rfl, hb10⟩
      have K10 := K9.below hb10
      clear K9 hb10 c10 c11
      go_wp2_with fail
      go_roundw
      case rel =>
        refine ⟨k + 1, _, by omega, by go_num, rfl, Lib.hid ?_, K10⟩
        rw [hm.out, ← hL.out, Kb.next_member (by rw [hL.out]; exact hkL)]
      case measure => simp [intOf]; omega
    · obtain rfl : k = zs.length := by omega
      have hae : a = -1 := by rw [haT.out]; unfold Kb.mAt; rw [if_neg (by rw [hzl.out]; omega)]
      subst hae
      go_wp2_with fail
      go_ret
      exact ⟨rfl, K.bel⟩
end Go.Proofs.YtmdekgbnpbanaaaDoor
