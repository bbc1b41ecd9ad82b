/- Walks: exprCost of package cost. -/
import Derived.Test.YtmemkcaikajnnaaGreatDoorCo
import Derived.Laws.EntriesVeiled
namespace Go.Proofs.YtmemkcaikajnnaaGreatDoor
open Go.RowKit Go.Sort
set_option linter.unusedVariables false

/-- the closure that adds -/
abbrev addF (b cb ab : Nat) : Value := .func (.func 54) #[] #[.pointer (some ⟨b, 0, none⟩), .pointer (some ⟨cb, 0, none⟩), .pointer (some ⟨ab, 0, none⟩)]
/-- the boxes of exprCost -/
structure AdB (w : World) (c : C) (cb ab b : Nat) (tot : Int) : Prop where
  bc : Blk w cb c.box
  ba : One w ab (addF b cb ab)
  bt : One w b (.int .i64 tot)
  h1 : cb ≠ b
  h2 : ab ≠ b
theorem AdB.below {w w' : World} {c : C} {cb ab b : Nat} {tot : Int} (h : AdB w c cb ab b tot) (hb : Below w.heap.size w w') : AdB w' c cb ab b tot :=
  ⟨h.bc.below hb h.bc.lt, h.ba.below hb h.ba.lt, h.bt.below hb h.bt.lt, h.h1, h.h2⟩
theorem One.grown {w w' : World} {b : Nat} {x : Value} {row : Option Nat} (h : One w b x) (hg : w.grownBy w' row) (hne : some b ≠ row) : One w' b x := by
  have hl := h.lt
  obtain ⟨T, h⟩ := h.blk
  exact ⟨T, (hg.block b hl hne).trans h⟩
theorem AdB.grown {w w' : World} {c : C} {cb ab b : Nat} {tot tot' : Int} (h : AdB w c cb ab b tot) (hg : w.grownBy w' (some b)) (ht : One w' b (.int .i64 tot')) : AdB w' c cb ab b tot' :=
  ⟨h.bc.grown hg (by simpa using h.h1), h.ba.grown hg (by simpa using h.h2), ht, h.h1, h.h2⟩
theorem AdB.put {w : World} {c : C} {cb ab b : Nat} {tot : Int} (h : AdB w c cb ab b tot) (t : Int) : AdB (w.setCell ⟨b, 0, none⟩ (.int .i64 t)) c cb ab b t :=
  h.grown (grown_set _ _ _ _) (h.bt.put _)
theorem AdB.drew {w : World} {c : C} {cb ab b : Nat} {tot : Int} (h : AdB w c cb ab b tot) : AdB w.drew c cb ab b tot := ⟨h.bc.drew, h.ba.drew, h.bt.drew, h.h1, h.h2⟩
/-- what a call of the closure leaves -/
def AdP (w : World) (c : C) (cb ab b : Nat) (tot : Int) (r : Ending) (w' : World) : Prop := r = .returned (.tuple #[]) ∧ w.grownBy w' (some b) ∧ AdB w' c cb ab b tot
/-- the contract of the closure at one expression -/
def AdE (c : C) (e : E) : Prop := ∀ (B cb ab b : Nat) (tot : Int) (w : World), B ≤ b → E.In w B e → AdB w c cb ab b tot → 0 ≤ tot → tot + 100 * (e.nodes : Int) ≤ 1000000000 →
    Calls Tryz.prog 54 #[e.val, .pointer (some ⟨b, 0, none⟩), .pointer (some ⟨cb, 0, none⟩), .pointer (some ⟨ab, 0, none⟩)] w (AdP w c cb ab b (tot + e.sum c.opC))

set_option maxRecDepth 100000 in
set_option maxHeartbeats 2000000 in
theorem add_any (c : C) (hc : c.ok = true) (e : E) : AdE c e := by
  induction e using E.ind with
  | h e ih =>
  intro B cb ab b tot w hB hin hbx h0 hmax
  have IH := Lib.hid ih
  have hlen := hin.nd.len
  have hl := hin.l
  have hsz := hbx.bt.lt
  have hop := C.opC_bd hc e.op
  have HN := Lib.hid (E.nodes_eq e)
  have HS := Lib.hid (E.sum_eq c.opC e)
  have hn1 := E.nodes_pos e
  obtain ⟨oc, hoc⟩ : ∃ oc, Hid (c.opC e.op = oc) := ⟨_, Lib.hid rfl⟩
  rw [hoc.out] at hop
  obtain ⟨t1, ht1⟩ : ∃ t1, Hid (t1 = tot + oc) := ⟨_, Lib.hid rfl⟩
  have hw1 : IntKind.i64.wrap (tot + oc) = t1 := by rw [ht1.out]; exact IntWalk.i64_in _ (by omega)
  have ht1b : 0 ≤ t1 ∧ t1 ≤ tot + 100 := by rw [ht1.out]; omega
  have j0 : AdB (w.alloc (.cells e.box 44)) c cb ab b tot := hbx.below (al1 _ _)
  have x0 := (Blk.new_ w e.box 44)
  have g0 := grown_alloc w (.cells e.box 44) (some b)
  have hz : (w.alloc (.cells e.box 44)).heap.size = w.heap.size + 1 := by simp
  obtain ⟨A, hA⟩ : ∃ A, Hid (e.ad = A) := ⟨_, Lib.hid rfl⟩
  rw [hA.out] at hl
  clear ih
  go_enter Tryz.func54, Tryz.ntmps54
  go_upto_region 1 with (fail)
  revert j0 x0 g0 hz
  generalize w.alloc (.cells #[.int .i64 e.op, .int .i64 e.n, .string e.nm, .slice e.ad e.ks.length e.cap] 44) = w1
  intro j0 x0 g0 hz
  go_cut [4] (fun s4 wx => s4 = .pointer (some ⟨w.heap.size, 0, none⟩) ∧ w.grownBy wx (some b) ∧ AdB wx c cb ab b t1 ∧ Blk wx w.heap.size e.box)
  case first =>
    replace j0 := j0.drew
    replace x0 := x0.drew
    replace g0 := grown_drew g0
    have c0 := j0.bt.c
    have d0 := j0.bc.c 0 rfl
    have d1 := j0.bc.c 1 rfl
    have d2 := j0.bc.c 2 rfl
    have d3 := j0.bc.c 3 rfl
    have d4 := j0.bc.c 4 rfl
    have d5 := j0.bc.c 5 rfl
    have d6 := j0.bc.c 6 rfl
    have d7 := j0.bc.c 7 rfl
    have d8 := j0.bc.c 8 rfl
    have d9 := j0.bc.c 9 rfl
    have d10 := j0.bc.c 10 rfl
    have d11 := j0.bc.c 11 rfl
    have d12 := j0.bc.c 12 rfl
    have y0 := x0.c 0 rfl
    have HC := Lib.hid (fun W => opCost_any c e.op W)
    rw [hoc.out] at HC
    go_region_with ((go_at_call 55; refine (HC.out _).mono ?_; rintro r w3 ⟨rfl, hb3⟩; have k := j0.below hb3; have kx := x0.below hb3 x0.lt; have kg := grown_trans g0 (grown_of_below hb3 (some b)); have g0 := k.bt.c; have f0 := k.bt.fr 0))
    all_goals
      go_wp2_with fail
      go_meet
      exact ⟨rfl, grown_trans kg (grown_set _ _ _ _), k.put t1, kx.far (by simp; omega) _⟩
  case rest =>
    clear j0 x0 g0 hz hw1 w1
    obtain ⟨rfl, hg, hx, hbe⟩ := hcut
    have c3 := hbe.c 3 rfl
    have c3' : wc.cell? ⟨w.heap.size, 3, none⟩ = some (.slice A e.ks.length e.cap) := by rw [← hA.out]; exact c3
    clear c3 hbe
    go_wp2_with fail
    go_loopw [16] (fun iv wr => ∃ (i : Nat) (t : Int), i ≤ e.ks.length ∧ iv = .int .i64 i ∧ Hid (t = t1 + E.sumL c.opC (e.ks.take i)) ∧ AdB wr c cb ab b t ∧ w.grownBy wr (some b)) (fun iv _ => e.ks.length - (intOf iv).toNat)
    case atStart => exact ⟨0, t1, Nat.zero_le _, rfl, Lib.hid (by simp [E.sumL]), hx, hg⟩
    case round =>
      clear c3' hx hg
      obtain ⟨i, t, hi, rfl, ht, hx, hg⟩ := hrel
      by_cases hlt : i < e.ks.length
      · have hbl := bGrown hg hB (by omega)
        obtain ⟨kb, off, k, rfl, hab, d0, d1, d2, d3, his, hkin⟩ := (hl.below hbl).at_ hlt
        have HI := Lib.hid (show AdE c k from IH.out k his.mem)
        have hz := hx.bt.lt
        have hnk : E.nodesL (e.ks.take (i + 1)) = E.nodesL (e.ks.take i) + k.nodes := by rw [his.take, E.nodesL_snoc]
        have hnl : E.nodesL (e.ks.take (i + 1)) ≤ E.nodesL e.ks := E.nodesL_take _ _
        have hsb := C.sumL_bd hc (e.ks.take i)
        have h00 : 0 ≤ t := by rw [ht.out]; omega
        have hmx : t + 100 * (k.nodes : Int) ≤ 1000000000 := by
          rw [ht.out]
          have := HN.out
          omega
        have HT : Hid (t + k.sum c.opC = t1 + E.sumL c.opC (e.ks.take (i + 1))) := Lib.hid (by rw [his.take, E.sumL_snoc, ht.out]; omega)
        clear hnk hnl hsb
        have hx2 := hx.below (al1 wr (.cells k.box 44))
        have ca := hx2.ba.c
        have hkin2 : E.In (wr.alloc (.cells k.box 44)) B k := hkin.below ((Below.refl _ _).alloc (by omega) _)
        go_wp2_with fail
        refine (HI.out B cb ab b t _ hB hkin2 hx2 h00 hmx).mono ?_
        rintro r w2 ⟨rfl, g2, o2⟩
        rw [HT.out] at o2
        replace g2 := grown_trans hg (grown_trans (grown_alloc wr _ _) g2)
        go_wp2_with fail
        go_roundw
        case rel => exact ⟨i + 1, _, by omega, by go_num, Lib.hid rfl, o2, g2⟩
        case measure => simp [intOf]; omega
      · obtain rfl : i = e.ks.length := by omega
        have HR : Hid (t = tot + e.sum c.opC) := Lib.hid (by
          have := ht.out
          rw [List.take_length] at this
          rw [this, HS.out, hoc.out, ht1.out]; omega)
        go_wp2_with fail
        go_end0
        exact ⟨rfl, hg, by rw [← HR.out]; exact hx⟩

/-- the boxes at the start -/
theorem AdB.start (w : World) (c : C) (e : E) (T1 T2 T3 T4 : TypeId) :
    AdB ((((w.alloc (.cells c.box T1)).alloc (.cells e.box T2)).alloc (.cells #[.int .i64 0] T3)).alloc (.cells #[addF (w.heap.size + 1 + 1) w.heap.size (w.heap.size + 1 + 1 + 1)] T4)) c w.heap.size (w.heap.size + 1 + 1 + 1) (w.heap.size + 1 + 1) 0 := by
  refine ⟨(((Blk.new_ _ _ _).alloc _).alloc _).alloc _, ?_, ?_, by omega, by omega⟩
  · have := One.new_ (((w.alloc (.cells c.box T1)).alloc (.cells e.box T2)).alloc (.cells #[.int .i64 0] T3)) (addF (w.heap.size + 1 + 1) w.heap.size (w.heap.size + 1 + 1 + 1)) T4
    simpa [World.size_alloc] using this
  · have := (One.new_ ((w.alloc (.cells c.box T1)).alloc (.cells e.box T2)) (.int .i64 0) T3).alloc (.cells #[addF (w.heap.size + 1 + 1) w.heap.size (w.heap.size + 1 + 1 + 1)] T4)
    simpa [World.size_alloc] using this
theorem al4 (w : World) (o1 o2 o3 o4 : Obj) : Below w.heap.size w ((((w.alloc o1).alloc o2).alloc o3).alloc o4) :=
  (((al1 w o1).alloc (by simp) _).alloc (by simp; omega) _).alloc (by simp; omega) _

set_option maxRecDepth 100000 in
set_option maxHeartbeats 1000000 in
theorem exprCost_any (c : C) (hc : c.ok = true) (e : E) (w : World) (hin : E.In w w.heap.size e) (hn : e.nodes ≤ 1000000) : Calls Tryz.prog 34 #[c.val, e.val] w fun r w' => r = .returned (.int .i64 (e.sum c.opC)) ∧ Below w.heap.size w w' := by
  have HS : Hid (0 + e.sum c.opC = e.sum c.opC) := Lib.hid (by omega)
  go_enter Tryz.func34, Tryz.ntmps34
  go_wp2_with fail
  refine (add_any c hc e w.heap.size w.heap.size (w.heap.size + 1 + 1 + 1) (w.heap.size + 1 + 1) 0 _ (by omega) (hin.below (al4 _ _ _ _ _)) (AdB.start w c e _ _ _ _) (by omega) (by omega)).mono ?_
  rintro r w1 ⟨rfl, g1, x1⟩
  rw [HS.out] at x1
  have b1 := bAll (al4 w _ _ _ _) (bGrown g1 (by omega) (by simp; omega))
  have c0 := x1.bt.c
  go_wp2_with fail
  go_ret
  exact ⟨rfl, b1⟩
end Go.Proofs.YtmemkcaikajnnaaGreatDoor
