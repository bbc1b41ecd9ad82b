/- The law BitsetTexts, walked: texts and sets are read and written back; Parse accepts just the texts of valid sets. -/
import Derived.Test.YtckenemkfegopaaDoorT7
import Derived.Test.YtckenemkfegopaaDoorWa
import Derived.Test.YtckenemkfegopaaDoorLawBuilds
namespace Go.Proofs.YtckenemkfegopaaDoor
open Go.RowKit Go.Sort
set_option linter.unusedVariables false

/-- what Text hands back -/
def TxtRes (t : ByteArray) (w : World) (e : Ending) (w' : World) : Prop := e = .returned (.string t) ∧ Below w.heap.size w w'

set_option maxRecDepth 100000 in
set_option maxHeartbeats 8000000 in
theorem texts_core (V F : Bool) (sa : Int) (A : Option Addr) (ca : Nat) (wa : List Nat) (s tx : ByteArray) (s1 s2 c1 c2 : Int) (l1 l2 : List Nat) (w : World) (ha : Words w w.heap.size A wa) (hl : wa.length ≤ 64) (hs : s.size ≤ 2000) (hl1 : l1.length ≤ 64) (hl2 : l2.length ≤ 64) (ht : Tabs w)
    (e1 : (c1 == 0) = V) (e2 : (c2 == 0) = F) (kv : Hid (Kb.validB sa wa = V)) (ks : Hid (V = true → sameB s1 l1 sa wa = true))
    (k1 : Hid (∀ W, Below w.heap.size w W → Calls Tryd.prog 49 #[.agg #[.int .i64 sa, .slice A wa.length ca]] W (TxtRes tx W)))
    (k2 : Hid (∀ W, Below w.heap.size w W → Calls Tryd.prog 50 #[.agg #[.int .i64 sa, .slice A wa.length ca]] W (TxtRes tx W)))
    (k3 : Hid (∀ W, Below w.heap.size w W → Calls Tryd.prog 51 #[.string tx] W (OutRes s1 l1 c1 W)))
    (k6 : Hid (∀ W, Below w.heap.size w W → Calls Tryd.prog 51 #[.string s] W (OutRes s2 l2 c2 W)))
    (k7 : Hid (∀ W, Below w.heap.size w W → Calls Tryd.prog 54 #[.string s] W (OutRes s2 l2 c2 W)))
    (k8 : Hid (F = true → ∀ W A' c', Words W W.heap.size A' l2 → Below w.heap.size w W → Calls Tryd.prog 49 #[.agg #[.int .i64 s2, .slice A' l2.length c']] W (TxtRes s W))) :
    Calls Tryd.prog 12 #[setV sa A wa.length ca, .string s] w fun e w' => e = .returned (.bool true) ∧ Below w.heap.size w w' := by
  have h1' : ¬ (64 : Int) < (wa.length : Int) := by omega
  have h2' : ¬ (2000 : Int) < (s.size : Int) := by omega
  have e3 : (c2 != 0) = !F := by unfold bne; rw [e2]
  unfold setV
  cases V <;> cases F
  all_goals
    simp only [Bool.not_false, Bool.not_true] at e3
    go_enter Tryd.func12, Tryd.ntmps12
    go_wp2_with fail
    have i1 : ChInv w (w.alloc (.cells #[.int .i64 sa, .slice A wa.length ca] 46)) (.int .i64 sa) (.slice A wa.length ca) := ⟨Two.new_ _ _ _ _, (Below.refl _ _).alloc (Nat.le_refl _) _⟩
    refine (known_ok _ (ht.below i1.bel)).mono ?_
    rintro e v0 ⟨rfl, hb⟩
    have i0 := i1.below hb
    clear i1 hb
    have x0 := i0.t1.c0
    have x1 := i0.t1.c1
    go_wp2_with fail
    refine (k1.out v0 i0.bel).mono ?_
    rintro e v1 ⟨rfl, hb⟩
    have i1 := i0.below hb
    clear i0 hb x0 x1
    have x0 := i1.t1.c0
    have x1 := i1.t1.c1
    go_wp2_with fail
    refine (k2.out v1 i1.bel).mono ?_
    rintro e v2 ⟨rfl, hb⟩
    have i2 := i1.below hb
    clear i1 hb x0 x1
    have hbq : (tx.toList == tx.toList) = true := beq_self_eq_true _
    go_wp2_with fail
    refine (k3.out v2 i2.bel).mono ?_
    rintro e u3 ⟨A1, d1, rfl, hw, hbb⟩
    have i3 := (i2.below hbb).alloc (.cells #[.int .i64 s1, .slice A1 l1.length d1] 46)
    have p3 := Kept.new_ (sz := s1) (c := d1) hw 46
    have j0 := (i2.below hbb).t1.c0
    have j1 := (i2.below hbb).t1.c1
    have j2 := (i2.below hbb).t1.lt
    clear i2 hbb hw
    unfold setV
    have x0 := i3.t1.c0
    have x1 := i3.t1.c1
    have y0 := p3.t.c0
    have y1 := p3.t.c1
    clear hbq
    go_wp2_with (first
      | (go_at_call 52; refine (rvalid_any sa A ca wa _ ((ha.below i3.bel).more i3.bel.size) (by omega)).mono ?_; rintro e w4 ⟨rfl, hb4⟩; rw [kv.out]; replace i3 := i3.below hb4; replace p3 := p3.below hb4; clear hb4; replace x0 := i3.t1.c0; replace x1 := i3.t1.c1; replace y0 := p3.t.c0; replace y1 := p3.t.c1)
      | (go_at_call 53; refine (same_any s1 A1 d1 l1 sa A ca wa _ p3.ws ((ha.below i3.bel).more i3.bel.size) (by omega)).mono ?_; rintro e w4 ⟨rfl, hb4⟩; rw [show sameB s1 l1 sa wa = true from by first | exact ks.out trivial | exact ks.out rfl]; replace i3 := i3.below hb4; replace p3 := p3.below hb4; clear hb4; replace x0 := i3.t1.c0; replace x1 := i3.t1.c1; replace y0 := p3.t.c0; replace y1 := p3.t.c1))
    clear p3 x0 x1 y0 y1 j0 j1 j2
    have i4 := i3
    clear i3
    refine (k6.out _ i4.bel).mono ?_
    rintro e u5 ⟨A2, d2, rfl, hw, hbb⟩
    have i5 := (i4.below hbb).alloc (.cells #[.int .i64 s2, .slice A2 l2.length d2] 46)
    have p5 := Kept.new_ (sz := s2) (c := d2) hw 46
    clear i4 hbb hw
    unfold setV
    go_wp2_with fail
    generalize hg : u5.alloc (.cells #[.int .i64 s2, .slice A2 l2.length d2] 46) = v5 at i5 p5 ⊢
    clear hg
    refine (k7.out v5 i5.bel).mono ?_
    rintro e u6 ⟨A3, d3, rfl, hw, hbb⟩
    have i6 := (i5.below hbb).alloc (.cells #[.int .i64 s2, .slice A3 l2.length d3] 46)
    have j0 := (p5.below hbb).t.c0
    have j1 := (p5.below hbb).t.c1
    have j2 := (p5.below hbb).t.lt
    replace p5 := (p5.below hbb).alloc (.cells #[.int .i64 s2, .slice A3 l2.length d3] 46)
    have p6 := Kept.new_ (sz := s2) (c := d3) hw 46
    clear i5 hbb hw
    unfold setV
    have y0 := p5.t.c0
    have y1 := p5.t.c1
    have z0 := p6.t.c0
    have z1 := p6.t.c1
    have hbq : (s.toList == s.toList) = true := beq_self_eq_true _
    go_wp2_with (first
      | (go_at_call 53; refine (same_any s2 A2 d2 l2 s2 A3 d3 l2 _ p5.ws p6.ws (by omega)).mono ?_; rintro e w7 ⟨rfl, hb7⟩; rw [same_self]; replace i6 := i6.below hb7; replace p5 := p5.below hb7; replace p6 := p6.below hb7; clear hb7; replace y0 := p5.t.c0; replace y1 := p5.t.c1; replace z0 := p6.t.c0; replace z1 := p6.t.c1)
      | (go_at_call 49; refine ((by first | exact k8.out trivial | exact k8.out rfl : ∀ W A' c', Words W W.heap.size A' l2 → Below w.heap.size w W → Calls Tryd.prog 49 #[.agg #[.int .i64 s2, .slice A' l2.length c']] W (TxtRes s W)) _ A2 d2 p5.ws i6.bel).mono ?_; rintro e w7 ⟨rfl, hb7⟩; replace i6 := i6.below hb7; clear hb7))
    go_ret
    exact ⟨rfl, i6.bel⟩

/-- what the law's Parse of a text makes -/
def pS : Option (Nat × List Nat) → Int
  | some (n, _) => (n : Int)
  | none => 0
def pW : Option (Nat × List Nat) → List Nat
  | some (n, ms) => Kt.wordsT n ms
  | none => []
def pC : Option (Nat × List Nat) → Int
  | some _ => 0
  | none => 6
theorem par_out {p : Option (Nat × List Nat)} {w w' : World} {e : Ending} (h : ParRes p w e w') : OutRes (pS p) (pW p) (pC p) w e w' := by
  cases p with
  | none => exact h
  | some p => exact h
theorem pC_eq (p : Option (Nat × List Nat)) : (pC p == 0) = p.isSome := by cases p <;> rfl
theorem pW_le {t : List UInt8} : (pW (Kt.pR 4096 t)).length ≤ 64 := by
  cases h : Kt.pR 4096 t with
  | none => exact Nat.zero_le _
  | some p =>
    obtain ⟨n, ms⟩ := p
    have hn := (Kt.par_some h).2.2.1
    show (Kb.mkWords n _).length ≤ 64
    rw [Kb.mkWords_length]; unfold Kb.nw; omega
/-- the text of a set, none of what is no set -/
def txtL (sz : Int) (ws : List Nat) : List UInt8 := if Kb.validB sz ws then Kt.txt sz.toNat (memL sz ws) else []

set_option maxRecDepth 100000 in
theorem texts_walk (sa : Int) (A : Option Addr) (ca : Nat) (wa : List Nat) (s : ByteArray) (w : World) (ha : Words w w.heap.size A wa) (hT : BtT w) (hl : wa.length ≤ 64) (hs : s.size ≤ 2000) :
    Calls Tryd.prog 12 #[setV sa A wa.length ca, .string s] w fun e w' => e = .returned (.bool true) ∧ Below w.heap.size w w' := by
  have ht := hT.tabs
  have at_ : ∀ W, Below w.heap.size w W → Words W W.heap.size A wa := fun W hb => (ha.below hb).more hb.size
  have k6 : ∀ W, Below w.heap.size w W → Calls Tryd.prog 51 #[.string s] W (OutRes (pS (Kt.pR 4096 (bs s))) (pW (Kt.pR 4096 (bs s))) (pC (Kt.pR 4096 (bs s))) W) :=
    fun W hb => (parse_any s (by omega) W (hT.below hb)).mono fun e w' h => par_out h
  have k7 : ∀ W, Below w.heap.size w W → Calls Tryd.prog 54 #[.string s] W (OutRes (pS (Kt.pR 4096 (bs s))) (pW (Kt.pR 4096 (bs s))) (pC (Kt.pR 4096 (bs s))) W) :=
    fun W hb => (rparse_any s (by omega) W).mono fun e w' h => par_out h
  have k8 : (Kt.pR 4096 (bs s)).isSome = true → ∀ W A' c', Words W W.heap.size A' (pW (Kt.pR 4096 (bs s))) → Below w.heap.size w W → Calls Tryd.prog 49 #[.agg #[.int .i64 (pS (Kt.pR 4096 (bs s))), .slice A' (pW (Kt.pR 4096 (bs s))).length c']] W (TxtRes s W) := by
    intro hF W A' c' hW hb
    cases h : Kt.pR 4096 (bs s) with
    | none => rw [h] at hF; cases hF
    | some p =>
      obtain ⟨n, ms⟩ := p
      rw [h] at hW
      obtain ⟨_, _, hn, _, hm, hx⟩ := Kt.par_some h
      have hq := btext_ok n A' c' (Kt.wordsT n ms) W hW (Kb.Ok.mk_ n _) hn (ht.below hb)
      rw [hm, ← hx, mk_bs] at hq
      exact hq
  cases hV : Kb.validB sa wa with
  | false =>
    have hp : Kt.pR 4096 (bs (⟨#[]⟩ : ByteArray)) = none := by rfl
    refine texts_core false _ sa A ca wa s ⟨#[]⟩ (pS none) _ (pC none) _ (pW none) _ w ha hl hs (Nat.zero_le _) pW_le ht rfl (pC_eq _) (Lib.hid hV) (Lib.hid (fun e => by cases e))
      (Lib.hid fun W hb => text_bad sa A ca wa W (at_ W hb) (by omega) hV) (Lib.hid fun W hb => rtext_bad sa A ca wa W (at_ W hb) (by omega) hV) (Lib.hid fun W hb => ?_) (Lib.hid k6) (Lib.hid k7) (Lib.hid k8)
    have h := (parse_any ⟨#[]⟩ (Nat.zero_le _) W (hT.below hb)).mono fun e w' h => par_out h
    rw [hp] at h
    exact h
  | true =>
    obtain ⟨v1, v2, hok⟩ := (Kb.validB_iff ha.lt).1 hV
    obtain ⟨n, rfl⟩ := Int.eq_ofNat_of_zero_le v1
    rw [Int.toNat_natCast] at hok
    have hn : n ≤ 4096 := by omega
    have hp : Kt.pR 4096 (bs (mkB (Kt.txt n (Kb.membersTo (Kb.bitAt wa) n)))) = some (n, Kb.membersTo (Kb.bitAt wa) n) := by
      rw [bs_mk]; exact Kt.par_txt _ hn
    have hlen : (mkB (Kt.txt n (Kb.membersTo (Kb.bitAt wa) n))).size ≤ 100000 := by
      have h1 := Kb.membersTo_le (Kb.bitAt wa) n
      have h2 := pc_len (Kb.membersTo (Kb.bitAt wa) n) (fun x hx => by have := (Kb.membersTo_mem.1 hx).1; omega) _ (Nat.le_refl _)
      rw [List.take_length] at h2
      have h3 := dec_len n hn
      rw [mk_size]
      unfold Kt.txt
      simp only [List.length_cons, List.length_append]
      omega
    have hwe : Kt.wordsT n (Kb.membersTo (Kb.bitAt wa) n) = wa := by
      refine Kb.eq_of_bits (Kb.Ok.mk_ n _) hok fun i hi => ?_
      unfold Kt.wordsT
      rw [Kb.bitAt_mkWords, Bool.eq_iff_iff, Bool.and_eq_true, decide_eq_true_eq, Kt.mem_cast, Kb.membersTo_mem]
      constructor
      · exact fun h => h.2.2
      · exact fun h => ⟨hi, hi, h⟩
    refine texts_core true _ n A ca wa s (mkB (Kt.txt n (Kb.membersTo (Kb.bitAt wa) n))) (n : Int) _ 0 _ wa _ w ha hl hs hl pW_le ht rfl (pC_eq _) (Lib.hid hV) (Lib.hid (fun _ => same_self _ _))
      (Lib.hid fun W hb => btext_ok n A ca wa W (at_ W hb) hok hn (ht.below hb)) (Lib.hid fun W hb => ?_) (Lib.hid fun W hb => ?_) (Lib.hid k6) (Lib.hid k7) (Lib.hid k8)
    · have h := rtext_ok n A ca wa W (at_ W hb) (by omega) hn hV
      rw [memL_ok hV] at h
      exact h
    · refine (parse_any _ hlen W (hT.below hb)).mono fun e w' h => ?_
      have h := par_out h
      rw [hp] at h
      obtain ⟨A', c', he, hW, hB⟩ := h
      rw [show pW (some (n, Kb.membersTo (Kb.bitAt wa) n)) = wa from hwe] at he hW
      exact ⟨A', c', he, hW, hB⟩
end Go.Proofs.YtckenemkfegopaaDoor
