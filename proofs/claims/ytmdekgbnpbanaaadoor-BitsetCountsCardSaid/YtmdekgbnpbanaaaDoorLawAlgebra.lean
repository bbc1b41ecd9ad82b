/- The law BitsetAlgebra, walked: twelve sets made of three, then six comparisons. -/
import Derived.Test.YtmdekgbnpbanaaaDoorWa
import Derived.Test.YtmdekgbnpbanaaaDoorWk
import Derived.Test.YtmdekgbnpbanaaaDoorWd
namespace Go.Proofs.YtmdekgbnpbanaaaDoor
open Go.RowKit Go.Sort
set_option linter.unusedVariables false

/-- a row of words that is a set of n, with the members that f says -/
structure Good (n : Nat) (l : List Nat) (f : Nat → Bool) : Prop where
  ok : Kb.Ok n l
  bit : ∀ j, j < n → Kb.bitAt l j = f j
theorem Good.mk_ (n : Nat) (f g : Nat → Bool) (h : ∀ j, j < n → f j = g j) : Good n (Kb.mkWords n f) g := ⟨Kb.Ok.mk_ _ _, fun j hj => by rw [Kb.bitAt_mkWords, ← h j hj]; simp [hj]⟩
theorem Good.len {n : Nat} {l : List Nat} {f : Nat → Bool} (h : Good n l f) (hn : n ≤ 4096) : l.length ≤ 140737488351232 := by rw [h.ok.len]; unfold Kb.nw; omega
theorem Good.valid {n : Nat} {l : List Nat} {f : Nat → Bool} (h : Good n l f) (hn : n ≤ 4096) : Kb.validB n l = true := (Kb.validB_iff h.ok.lt).2 ⟨by omega, by omega, h.ok⟩

/-- a new set -/
def GetRes (n : Nat) (f : Nat → Bool) (w : World) (e : Ending) (w' : World) : Prop :=
  ∃ l A c, e = .returned (.tuple #[.agg #[.int .i64 (n : Int), .slice A l.length c], .int .i64 0]) ∧ Hid (Good n l f) ∧ Words w' w'.heap.size A l ∧ Below w.heap.size w w'
theorem GetRes.of_set {n : Nat} {f g : Nat → Bool} {w w' : World} {e : Ending} (hs : SetRes n (Kb.mkWords n f) w e w') (h : ∀ j, j < n → f j = g j) : GetRes n g w e w' := by
  obtain ⟨A, c, rfl, hw, hb⟩ := hs
  exact ⟨_, A, c, rfl, Lib.hid (Good.mk_ n f g h), hw, hb⟩

/-- a box with a set -/
structure Bx (w : World) (n b : Nat) (A : Option Addr) (l : List Nat) (c : Nat) (f : Nat → Bool) : Prop where
  t : Two w b (.int .i64 (n : Int)) (.slice A l.length c)
  ws : Words w w.heap.size A l
  ok : Hid (Good n l f)
theorem Bx.below {w wx : World} {n b : Nat} {A : Option Addr} {l : List Nat} {c : Nat} {f : Nat → Bool} (h : Bx w n b A l c f) (hb : Below w.heap.size w wx) : Bx wx n b A l c f := ⟨h.t.below hb h.t.lt, (h.ws.below hb).more hb.size, h.ok⟩
theorem Bx.alloc {w : World} {n b : Nat} {A : Option Addr} {l : List Nat} {c : Nat} {f : Nat → Bool} (h : Bx w n b A l c f) (o : Obj) : Bx (w.alloc o) n b A l c f := ⟨h.t.alloc o, (h.ws.alloc (Nat.le_refl _) o).more (by simp), h.ok⟩

def Bxs (w : World) (n : Nat) : List (Nat × Option Addr × List Nat × Nat × (Nat → Bool)) → Prop
  | [] => True
  | (b, A, l, c, f) :: L => Bx w n b A l c f ∧ Bxs w n L
theorem Bxs.below {w wx : World} {n : Nat} (hb : Below w.heap.size w wx) : ∀ {L}, Bxs w n L → Bxs wx n L
  | [], _ => trivial
  | (_, _, _, _, _) :: _, h => ⟨h.1.below hb, Bxs.below hb h.2⟩
theorem Bxs.alloc {w : World} {n : Nat} (o : Obj) : ∀ {L}, Bxs w n L → Bxs (w.alloc o) n L
  | [], _ => trivial
  | (_, _, _, _, _) :: _, h => ⟨h.1.alloc o, Bxs.alloc o h.2⟩

/-- the law's world -/
structure Al (w wr : World) (n : Nat) (L : List (Nat × Option Addr × List Nat × Nat × (Nat → Bool))) : Prop where
  bel : Below w.heap.size w wr
  bx : Bxs wr n L
theorem Al.below {w wr wx : World} {n : Nat} {L} (h : Al w wr n L) (hb : Below wr.heap.size wr wx) : Al w wx n L := ⟨h.bel.trans (hb.mono h.bel.size), h.bx.below hb⟩
theorem Al.push {w wr : World} {n : Nat} {L} (h : Al w wr n L) {A : Option Addr} {l : List Nat} {f : Nat → Bool} (c : Nat) (hw : Words wr wr.heap.size A l) (ho : Hid (Good n l f)) (T : TypeId) :
    Al w (wr.alloc (.cells #[.int .i64 (n : Int), .slice A l.length c] T)) n ((wr.heap.size, A, l, c, f) :: L) :=
  ⟨h.bel.alloc h.bel.size _, ⟨Two.new_ _ _ _ _, (hw.alloc (Nat.le_refl _) _).more (by simp), ho⟩, h.bx.alloc _⟩

section
variable {n : Nat} {A B : Option Addr} {la lb : List Nat} {f g : Nat → Bool} {w : World} {b b' ca cb : Nat}

theorem union_g (hn : n ≤ 4096) (h1 : Bx w n b A la ca f) (h2 : Bx w n b' B lb cb g) :
    Calls Tryd.prog 26 #[.agg #[.int .i64 (n : Int), .slice A la.length ca], .agg #[.int .i64 (n : Int), .slice B lb.length cb]] w (GetRes n (fun j => f j || g j) w) :=
  (union_ok n A ca la B cb lb w h1.ws h2.ws h1.ok.out.ok h2.ok.out.ok hn).mono fun _ _ h => GetRes.of_set h fun j hj => by simp only [h1.ok.out.bit j hj, h2.ok.out.bit j hj]

theorem inter_g (hn : n ≤ 4096) (h1 : Bx w n b A la ca f) (h2 : Bx w n b' B lb cb g) :
    Calls Tryd.prog 27 #[.agg #[.int .i64 (n : Int), .slice A la.length ca], .agg #[.int .i64 (n : Int), .slice B lb.length cb]] w (GetRes n (fun j => f j && g j) w) :=
  (inter_ok n A ca la B cb lb w h1.ws h2.ws h1.ok.out.ok h2.ok.out.ok hn).mono fun _ _ h => GetRes.of_set h fun j hj => by simp only [h1.ok.out.bit j hj, h2.ok.out.bit j hj]

theorem minus_g (hn : n ≤ 4096) (h1 : Bx w n b A la ca f) (h2 : Bx w n b' B lb cb g) :
    Calls Tryd.prog 28 #[.agg #[.int .i64 (n : Int), .slice A la.length ca], .agg #[.int .i64 (n : Int), .slice B lb.length cb]] w (GetRes n (fun j => f j && !g j) w) :=
  (minus_ok n A ca la B cb lb w h1.ws h2.ws h1.ok.out.ok h2.ok.out.ok hn).mono fun _ _ h => GetRes.of_set h fun j hj => by simp only [h1.ok.out.bit j hj, h2.ok.out.bit j hj]

theorem compl_g (hn : n ≤ 4096) (h1 : Bx w n b A la ca f) :
    Calls Tryd.prog 29 #[.agg #[.int .i64 (n : Int), .slice A la.length ca]] w (GetRes n (fun j => !f j) w) :=
  (compl_ok n A ca la w h1.ws h1.ok.out.ok hn).mono fun _ _ h => GetRes.of_set h fun j hj => by simp only [h1.ok.out.bit j hj]
theorem equal_g (hn : n ≤ 4096) (h1 : Bx w n b A la ca f) (h2 : Bx w n b' B lb cb g) (hfg : ∀ j, f j = g j) :
    Calls Tryd.prog 32 #[.agg #[.int .i64 (n : Int), .slice A la.length ca], .agg #[.int .i64 (n : Int), .slice B lb.length cb]] w fun e w' => e = .returned (.bool true) ∧ Below w.heap.size w w' := by
  have h := equal_any n A ca la n B cb lb w h1.ws h2.ws (h1.ok.out.len hn) (h2.ok.out.len hn)
  have e : la = lb := Kb.eq_of_bits h1.ok.out.ok h2.ok.out.ok fun j hj => by rw [h1.ok.out.bit j hj, h2.ok.out.bit j hj, hfg j]
  rw [eqB_eq (h1.ok.out.valid hn) (h2.ok.out.valid hn) rfl, e, beq_self_eq_true] at h
  rw [e]
  exact h
theorem subset_g (hn : n ≤ 4096) (h1 : Bx w n b A la ca f) (h2 : Bx w n b' B lb cb g) (hfg : ∀ j, f j = true → g j = true) :
    Calls Tryd.prog 34 #[.agg #[.int .i64 (n : Int), .slice A la.length ca], .agg #[.int .i64 (n : Int), .slice B lb.length cb]] w fun e w' => e = .returned (.bool true) ∧ Below w.heap.size w w' := by
  have h := subset_any n A ca la n B cb lb w h1.ws h2.ws (h1.ok.out.len hn) (h2.ok.out.len hn)
  rw [subB_yes (h1.ok.out.valid hn) (h2.ok.out.valid hn) rfl (fun j hj hb => by
    have hj' : j < n := by simpa using hj
    rw [h1.ok.out.bit j hj'] at hb
    rw [h2.ok.out.bit j hj']
    exact hfg j hb)] at h
  exact h
end

/-- three boxes -/
structure TriInv (w wr : World) (x1 y1 x2 y2 x3 y3 : Value) : Prop where
  t1 : Two wr w.heap.size x1 y1
  t2 : Two wr (w.heap.size + 1) x2 y2
  t3 : Two wr (w.heap.size + 2) x3 y3
  bel : Below w.heap.size w wr
theorem TriInv.new_ (w : World) (x1 y1 x2 y2 x3 y3 : Value) (T : TypeId) : TriInv w (((w.alloc (.cells #[x1, y1] T)).alloc (.cells #[x2, y2] T)).alloc (.cells #[x3, y3] T)) x1 y1 x2 y2 x3 y3 where
  t1 := ((Two.new_ _ _ _ _).alloc _).alloc _
  t2 := by simpa using (Two.new_ (w.alloc (.cells #[x1, y1] T)) x2 y2 T).alloc _
  t3 := by simpa using Two.new_ ((w.alloc (.cells #[x1, y1] T)).alloc (.cells #[x2, y2] T)) x3 y3 T
  bel := (((Below.refl _ _).alloc (Nat.le_refl _) _).alloc (by simp) _).alloc (by simp; omega) _
theorem TriInv.below {w wr wx : World} {x1 y1 x2 y2 x3 y3 : Value} (h : TriInv w wr x1 y1 x2 y2 x3 y3) (hb : Below wr.heap.size wr wx) : TriInv w wx x1 y1 x2 y2 x3 y3 :=
  ⟨h.t1.below hb h.t1.lt, h.t2.below hb h.t2.lt, h.t3.below hb h.t3.lt, h.bel.trans (hb.mono h.bel.size)⟩

set_option maxRecDepth 100000 in
set_option maxHeartbeats 4000000 in
theorem algebra_walk (sa : Int) (A : Option Addr) (ca : Nat) (wa : List Nat) (sb : Int) (B : Option Addr) (cb : Nat) (wb : List Nat) (sc : Int) (C : Option Addr) (cc : Nat) (wc : List Nat) (w : World)
    (ha : Words w w.heap.size A wa) (hb : Words w w.heap.size B wb) (hc : Words w w.heap.size C wc) (ht : Tabs w) :
    Calls Tryd.prog 9 #[setV sa A wa.length ca, setV sb B wb.length cb, setV sc C wc.length cc] w fun e w' => e = .returned (.bool true) ∧ Below w.heap.size w w' := by
  unfold setV
  go_enter Tryd.func9, Tryd.ntmps9
  go_wp2_with fail
  have i1 := TriInv.new_ w (.int .i64 sa) (.slice A wa.length ca) (.int .i64 sb) (.slice B wb.length cb) (.int .i64 sc) (.slice C wc.length cc) 24
  refine (known_ok _ (ht.below i1.bel)).mono ?_
  rintro e w1 ⟨rfl, hb1⟩
  have i2 := i1.below hb1
  clear i1 hb1
  have c10 := i2.t1.c0
  have c11 := i2.t1.c1
  have d11 := i2.t2.c1
  have e11 := i2.t3.c1
  by_cases h1 : 64 < wa.length
  · have h1' : (64 : Int) < (wa.length : Int) := by omega
    go_wp2_with fail
    go_ret
    exact ⟨rfl, i2.bel⟩
  have h1' : ¬ (64 : Int) < (wa.length : Int) := by omega
  by_cases h2 : 64 < wb.length
  · have h2' : (64 : Int) < (wb.length : Int) := by omega
    go_wp2_with fail
    go_ret
    exact ⟨rfl, i2.bel⟩
  have h2' : ¬ (64 : Int) < (wb.length : Int) := by omega
  by_cases h3 : 64 < wc.length
  · have h3' : (64 : Int) < (wc.length : Int) := by omega
    go_wp2_with fail
    go_ret
    exact ⟨rfl, i2.bel⟩
  have h3' : ¬ (64 : Int) < (wc.length : Int) := by omega
  go_wp2_with fail
  refine (rvalid_any sa A ca wa _ ((ha.below i2.bel).more i2.bel.size) (by omega)).mono ?_
  rintro e w2 ⟨rfl, hb2⟩
  have i3 := i2.below hb2
  clear i2 hb2 c10 c11 d11 e11
  have d10 := i3.t2.c0
  have d11 := i3.t2.c1
  cases hva : Kb.validB sa wa with
  | false =>
    go_wp2_with fail
    go_ret
    exact ⟨rfl, i3.bel⟩
  | true =>
  go_wp2_with fail
  refine (rvalid_any sb B cb wb _ ((hb.below i3.bel).more i3.bel.size) (by omega)).mono ?_
  rintro e w3 ⟨rfl, hb3⟩
  have i4 := i3.below hb3
  clear i3 hb3 d10 d11
  have e10 := i4.t3.c0
  have e11 := i4.t3.c1
  cases hvb : Kb.validB sb wb with
  | false =>
    go_wp2_with fail
    go_ret
    exact ⟨rfl, i4.bel⟩
  | true =>
  go_wp2_with fail
  refine (rvalid_any sc C cc wc _ ((hc.below i4.bel).more i4.bel.size) (by omega)).mono ?_
  rintro e w4 ⟨rfl, hb4⟩
  have i5 := i4.below hb4
  clear i4 hb4 e10 e11
  have c10 := i5.t1.c0
  have d10 := i5.t2.c0
  have e10 := i5.t3.c0
  cases hvc : Kb.validB sc wc with
  | false =>
    go_wp2_with fail
    go_ret
    exact ⟨rfl, i5.bel⟩
  | true =>
  by_cases hs : sa = sb
  case neg =>
    have hs' : (sa != sb) = true := by simpa using hs
    go_wp2_with fail
    go_ret
    exact ⟨rfl, i5.bel⟩
  by_cases hs2 : sa = sc
  case neg =>
    have hs' : (sa != sb) = false := by simpa using hs
    have hs2' : (sa != sc) = true := by simpa using hs2
    clear hs
    go_wp2_with fail
    go_ret
    exact ⟨rfl, i5.bel⟩
  subst hs hs2
  obtain ⟨n, rfl⟩ := Int.eq_ofNat_of_zero_le ((Kb.validB_iff ha.lt).1 hva).1
  have hn : n ≤ 4096 := by have := ((Kb.validB_iff ha.lt).1 hva).2.1; omega
  have ga : Hid (Good n wa (Kb.bitAt wa)) := Lib.hid ⟨by simpa using ((Kb.validB_iff ha.lt).1 hva).2.2, fun _ _ => rfl⟩
  have gb : Hid (Good n wb (Kb.bitAt wb)) := Lib.hid ⟨by simpa using ((Kb.validB_iff hb.lt).1 hvb).2.2, fun _ _ => rfl⟩
  have gc : Hid (Good n wc (Kb.bitAt wc)) := Lib.hid ⟨by simpa using ((Kb.validB_iff hc.lt).1 hvc).2.2, fun _ _ => rfl⟩
  clear hva hvb hvc h1 h2 h3
  generalize Kb.bitAt wa = α at ga
  generalize Kb.bitAt wb = β at gb
  generalize Kb.bitAt wc = γ at gc
  have K0 : Al w w4 n [(w.heap.size + 2, C, wc, cc, γ), (w.heap.size + 1, B, wb, cb, β), (w.heap.size, A, wa, ca, α)] :=
    ⟨i5.bel, ⟨i5.t3, (hc.below i5.bel).more i5.bel.size, gc⟩, ⟨i5.t2, (hb.below i5.bel).more i5.bel.size, gb⟩, ⟨i5.t1, (ha.below i5.bel).more i5.bel.size, ga⟩, trivial⟩
  clear c10 d10 e10 i5 ga gb gc
  have hN := Lib.hid hn
  clear hn
  have x00 := K0.bx.2.2.1.t.c0
  have x01 := K0.bx.2.2.1.t.c1
  have x02 := K0.bx.2.2.1.t.lt
  have x10 := K0.bx.2.1.t.c0
  have x11 := K0.bx.2.1.t.c1
  have x12 := K0.bx.2.1.t.lt
  have x20 := K0.bx.1.t.c0
  have x21 := K0.bx.1.t.c1
  have x22 := K0.bx.1.t.lt
  go_wp2_with fail
  clear x00 x01 x02 x10 x11 x12 x20 x21 x22 h1' h2' h3'
  refine (union_g hN.out K0.bx.2.1 K0.bx.1).mono ?_
  rintro e u1 ⟨l1, A1, c1, rfl, o1, hw, hbb⟩
  have M := K0.below hbb
  clear K0 hbb
  have x00 := M.bx.2.2.1.t.c0
  have x01 := M.bx.2.2.1.t.c1
  have x02 := M.bx.2.2.1.t.lt
  go_wp2_with fail
  have K1 := M.push c1 hw o1 24
  clear M hw o1 x00 x01 x02
  generalize hg : u1.alloc (.cells #[.int .i64 (n : Int), .slice A1 l1.length c1] 24) = v1 at K1 ⊢
  clear hg
  refine (inter_g hN.out K1.bx.2.2.2.1 K1.bx.1).mono ?_
  rintro e u2 ⟨l2, A2, c2, rfl, o2, hw, hbb⟩
  have M := K1.below hbb
  clear K1 hbb
  have x00 := M.bx.2.2.2.1.t.c0
  have x01 := M.bx.2.2.2.1.t.c1
  have x02 := M.bx.2.2.2.1.t.lt
  have x10 := M.bx.2.2.1.t.c0
  have x11 := M.bx.2.2.1.t.c1
  have x12 := M.bx.2.2.1.t.lt
  go_wp2_with fail
  have K2 := M.push c2 hw o2 24
  clear M hw o2 x00 x01 x02 x10 x11 x12
  generalize hg : u2.alloc (.cells #[.int .i64 (n : Int), .slice A2 l2.length c2] 24) = v2 at K2 ⊢
  clear hg
  refine (inter_g hN.out K2.bx.2.2.2.2.1 K2.bx.2.2.2.1).mono ?_
  rintro e u3 ⟨l3, A3, c3, rfl, o3, hw, hbb⟩
  have M := K2.below hbb
  clear K2 hbb
  have x00 := M.bx.2.2.2.2.1.t.c0
  have x01 := M.bx.2.2.2.2.1.t.c1
  have x02 := M.bx.2.2.2.2.1.t.lt
  have x10 := M.bx.2.2.1.t.c0
  have x11 := M.bx.2.2.1.t.c1
  have x12 := M.bx.2.2.1.t.lt
  go_wp2_with fail
  have K3 := M.push c3 hw o3 24
  clear M hw o3 x00 x01 x02 x10 x11 x12
  generalize hg : u3.alloc (.cells #[.int .i64 (n : Int), .slice A3 l3.length c3] 24) = v3 at K3 ⊢
  clear hg
  refine (inter_g hN.out K3.bx.2.2.2.2.2.1 K3.bx.2.2.2.1).mono ?_
  rintro e u4 ⟨l4, A4, c4, rfl, o4, hw, hbb⟩
  have M := K3.below hbb
  clear K3 hbb
  have x00 := M.bx.1.t.c0
  have x01 := M.bx.1.t.c1
  have x02 := M.bx.1.t.lt
  go_wp2_with fail
  have K4 := M.push c4 hw o4 24
  clear M hw o4 x00 x01 x02
  generalize hg : u4.alloc (.cells #[.int .i64 (n : Int), .slice A4 l4.length c4] 24) = v4 at K4 ⊢
  clear hg
  refine (union_g hN.out K4.bx.2.1 K4.bx.1).mono ?_
  rintro e u5 ⟨l5, A5, c5, rfl, o5, hw, hbb⟩
  have M := K4.below hbb
  clear K4 hbb
  have x00 := M.bx.2.2.2.2.2.1.t.c0
  have x01 := M.bx.2.2.2.2.2.1.t.c1
  have x02 := M.bx.2.2.2.2.2.1.t.lt
  go_wp2_with fail
  have K5 := M.push c5 hw o5 24
  clear M hw o5 x00 x01 x02
  generalize hg : u5.alloc (.cells #[.int .i64 (n : Int), .slice A5 l5.length c5] 24) = v5 at K5 ⊢
  clear hg
  refine (compl_g hN.out K5.bx.2.2.2.2.2.2.1).mono ?_
  rintro e u6 ⟨l6, A6, c6, rfl, o6, hw, hbb⟩
  have M := K5.below hbb
  clear K5 hbb
  have x00 := M.bx.2.2.2.2.2.1.t.c0
  have x01 := M.bx.2.2.2.2.2.1.t.c1
  have x02 := M.bx.2.2.2.2.2.1.t.lt
  go_wp2_with fail
  have K6 := M.push c6 hw o6 24
  clear M hw o6 x00 x01 x02
  generalize hg : u6.alloc (.cells #[.int .i64 (n : Int), .slice A6 l6.length c6] 24) = v6 at K6 ⊢
  clear hg
  refine (compl_g hN.out K6.bx.2.2.2.2.2.2.1).mono ?_
  rintro e u7 ⟨l7, A7, c7, rfl, o7, hw, hbb⟩
  have M := K6.below hbb
  clear K6 hbb
  have x00 := M.bx.2.2.2.2.2.1.t.c0
  have x01 := M.bx.2.2.2.2.2.1.t.c1
  have x02 := M.bx.2.2.2.2.2.1.t.lt
  go_wp2_with fail
  have K7 := M.push c7 hw o7 24
  clear M hw o7 x00 x01 x02
  generalize hg : u7.alloc (.cells #[.int .i64 (n : Int), .slice A7 l7.length c7] 24) = v7 at K7 ⊢
  clear hg
  refine (compl_g hN.out K7.bx.2.2.2.2.2.2.1).mono ?_
  rintro e u8 ⟨l8, A8, c8, rfl, o8, hw, hbb⟩
  have M := K7.below hbb
  clear K7 hbb
  have x00 := M.bx.2.1.t.c0
  have x01 := M.bx.2.1.t.c1
  have x02 := M.bx.2.1.t.lt
  have x10 := M.bx.1.t.c0
  have x11 := M.bx.1.t.c1
  have x12 := M.bx.1.t.lt
  go_wp2_with fail
  have K8 := M.push c8 hw o8 24
  clear M hw o8 x00 x01 x02 x10 x11 x12
  generalize hg : u8.alloc (.cells #[.int .i64 (n : Int), .slice A8 l8.length c8] 24) = v8 at K8 ⊢
  clear hg
  refine (inter_g hN.out K8.bx.2.2.1 K8.bx.2.1).mono ?_
  rintro e u9 ⟨l9, A9, c9, rfl, o9, hw, hbb⟩
  have M := K8.below hbb
  clear K8 hbb
  have x00 := M.bx.2.2.2.2.2.2.2.2.2.2.1.t.c0
  have x01 := M.bx.2.2.2.2.2.2.2.2.2.2.1.t.c1
  have x02 := M.bx.2.2.2.2.2.2.2.2.2.2.1.t.lt
  have x10 := M.bx.2.2.2.2.2.2.2.2.2.1.t.c0
  have x11 := M.bx.2.2.2.2.2.2.2.2.2.1.t.c1
  have x12 := M.bx.2.2.2.2.2.2.2.2.2.1.t.lt
  go_wp2_with fail
  have K9 := M.push c9 hw o9 24
  clear M hw o9 x00 x01 x02 x10 x11 x12
  generalize hg : u9.alloc (.cells #[.int .i64 (n : Int), .slice A9 l9.length c9] 24) = v9 at K9 ⊢
  clear hg
  refine (minus_g hN.out K9.bx.2.2.2.2.2.2.2.2.2.2.2.1 K9.bx.2.2.2.2.2.2.2.2.2.2.1).mono ?_
  rintro e u10 ⟨l10, A10, c10, rfl, o10, hw, hbb⟩
  have M := K9.below hbb
  clear K9 hbb
  have x00 := M.bx.2.2.2.2.2.2.2.2.2.2.2.1.t.c0
  have x01 := M.bx.2.2.2.2.2.2.2.2.2.2.2.1.t.c1
  have x02 := M.bx.2.2.2.2.2.2.2.2.2.2.2.1.t.lt
  have x10 := M.bx.2.2.2.1.t.c0
  have x11 := M.bx.2.2.2.1.t.c1
  have x12 := M.bx.2.2.2.1.t.lt
  go_wp2_with fail
  have K10 := M.push c10 hw o10 24
  clear M hw o10 x00 x01 x02 x10 x11 x12
  generalize hg : u10.alloc (.cells #[.int .i64 (n : Int), .slice A10 l10.length c10] 24) = v10 at K10 ⊢
  clear hg
  refine (inter_g hN.out K10.bx.2.2.2.2.2.2.2.2.2.2.2.2.1 K10.bx.2.2.2.2.1).mono ?_
  rintro e u11 ⟨l11, A11, c11, rfl, o11, hw, hbb⟩
  have M := K10.below hbb
  clear K10 hbb
  have x00 := M.bx.2.2.2.2.1.t.c0
  have x01 := M.bx.2.2.2.2.1.t.c1
  have x02 := M.bx.2.2.2.2.1.t.lt
  go_wp2_with fail
  have K11 := M.push c11 hw o11 24
  clear M hw o11 x00 x01 x02
  generalize hg : u11.alloc (.cells #[.int .i64 (n : Int), .slice A11 l11.length c11] 24) = v11 at K11 ⊢
  clear hg
  refine (compl_g hN.out K11.bx.2.2.2.2.2.1).mono ?_
  rintro e u12 ⟨l12, A12, c12, rfl, o12, hw, hbb⟩
  have M := K11.below hbb
  clear K11 hbb
  have x00 := M.bx.2.2.2.2.2.2.2.2.2.1.t.c0
  have x01 := M.bx.2.2.2.2.2.2.2.2.2.1.t.c1
  have x02 := M.bx.2.2.2.2.2.2.2.2.2.1.t.lt
  have x10 := M.bx.2.2.2.2.2.2.1.t.c0
  have x11 := M.bx.2.2.2.2.2.2.1.t.c1
  have x12 := M.bx.2.2.2.2.2.2.1.t.lt
  go_wp2_with fail
  have K12 := M.push c12 hw o12 24
  clear M hw o12 x00 x01 x02 x10 x11 x12
  generalize hg : u12.alloc (.cells #[.int .i64 (n : Int), .slice A12 l12.length c12] 24) = v12 at K12 ⊢
  clear hg
  refine (equal_g hN.out K12.bx.2.2.2.2.2.2.2.2.2.2.1 K12.bx.2.2.2.2.2.2.2.1 (fun j => by cases α j <;> cases β j <;> cases γ j <;> rfl)).mono ?_
  rintro e z1 ⟨rfl, hbb⟩
  have N1 := K12.below hbb
  clear K12 hbb
  have x00 := N1.bx.2.2.2.2.1.t.c0
  have x01 := N1.bx.2.2.2.2.1.t.c1
  have x10 := N1.bx.2.2.2.1.t.c0
  have x11 := N1.bx.2.2.2.1.t.c1
  go_wp2_with fail
  clear x00 x01 x10 x11
  refine (equal_g hN.out N1.bx.2.2.2.2.1 N1.bx.2.2.2.1 (fun j => by cases α j <;> cases β j <;> cases γ j <;> rfl)).mono ?_
  rintro e z2 ⟨rfl, hbb⟩
  have N2 := N1.below hbb
  clear N1 hbb
  have x00 := N2.bx.2.2.1.t.c0
  have x01 := N2.bx.2.2.1.t.c1
  have x10 := N2.bx.2.1.t.c0
  have x11 := N2.bx.2.1.t.c1
  go_wp2_with fail
  clear x00 x01 x10 x11
  refine (equal_g hN.out N2.bx.2.2.1 N2.bx.2.1 (fun j => by cases α j <;> cases β j <;> cases γ j <;> rfl)).mono ?_
  rintro e z3 ⟨rfl, hbb⟩
  have N3 := N2.below hbb
  clear N2 hbb
  have x00 := N3.bx.1.t.c0
  have x01 := N3.bx.1.t.c1
  have x10 := N3.bx.2.2.2.2.2.2.2.2.2.2.2.2.2.1.t.c0
  have x11 := N3.bx.2.2.2.2.2.2.2.2.2.2.2.2.2.1.t.c1
  go_wp2_with fail
  clear x00 x01 x10 x11
  refine (equal_g hN.out N3.bx.1 N3.bx.2.2.2.2.2.2.2.2.2.2.2.2.2.1 (fun j => by cases α j <;> cases β j <;> cases γ j <;> rfl)).mono ?_
  rintro e z4 ⟨rfl, hbb⟩
  have N4 := N3.below hbb
  clear N3 hbb
  have x00 := N4.bx.2.2.2.2.2.2.2.2.2.1.t.c0
  have x01 := N4.bx.2.2.2.2.2.2.2.2.2.1.t.c1
  have x10 := N4.bx.2.2.2.2.2.2.2.2.2.2.2.2.2.2.1.t.c0
  have x11 := N4.bx.2.2.2.2.2.2.2.2.2.2.2.2.2.2.1.t.c1
  go_wp2_with fail
  clear x00 x01 x10 x11
  refine (subset_g hN.out N4.bx.2.2.2.2.2.2.2.2.2.1 N4.bx.2.2.2.2.2.2.2.2.2.2.2.2.2.2.1 (fun j => by cases α j <;> cases β j <;> cases γ j <;> simp)).mono ?_
  rintro e z5 ⟨rfl, hbb⟩
  have N5 := N4.below hbb
  clear N4 hbb
  have x00 := N5.bx.2.2.2.2.2.2.2.2.2.2.2.2.2.1.t.c0
  have x01 := N5.bx.2.2.2.2.2.2.2.2.2.2.2.2.2.1.t.c1
  have x10 := N5.bx.2.2.2.2.2.2.2.2.2.2.2.1.t.c0
  have x11 := N5.bx.2.2.2.2.2.2.2.2.2.2.2.1.t.c1
  go_wp2_with fail
  clear x00 x01 x10 x11
  refine (subset_g hN.out N5.bx.2.2.2.2.2.2.2.2.2.2.2.2.2.1 N5.bx.2.2.2.2.2.2.2.2.2.2.2.1 (fun j => by cases α j <;> cases β j <;> cases γ j <;> simp)).mono ?_
  rintro e z6 ⟨rfl, hbb⟩
  have N6 := N5.below hbb
  clear N5 hbb
  go_wp2_with fail
  go_ret
  exact ⟨rfl, N6.bel⟩
end Go.Proofs.YtmdekgbnpbanaaaDoor
