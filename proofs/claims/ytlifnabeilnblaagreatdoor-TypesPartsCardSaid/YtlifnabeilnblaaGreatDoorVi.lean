/- Walks: faultsOf at a type, the visitor of codeOf. -/
import Derived.Test.YtlifnabeilnblaaGreatDoorFx
import Derived.Deep.RegionHeld3
namespace Go.Proofs.YtlifnabeilnblaaGreatDoor
open Go.RowKit Go.Sort
set_option linter.unusedVariables false

theorem assert_other {t u x : TypeId} {fs : Array Field} (hne : t ≠ u) (hu : Tryz.prog.underlying u = some (.struct fs)) :
    (∃ j z, Tryz.prog.info? u = some j ∧ j.zero = some z) → ∃ z, ∀ v w, (Instr.typeAssert (.iface t v) x u true).run Tryz.prog w = .ok (.tuple #[z, .bool false]) w := by
  rintro ⟨j, z, hj, hz⟩
  refine ⟨z, fun v w => ?_⟩
  simp [Instr.typeAssert, run_underlying hu, hne, zeroValue, typeInfo, hj, hz]
theorem assert_same {t x : TypeId} {fs : Array Field} (hu : Tryz.prog.underlying t = some (.struct fs)) (v : Value) (w : World) : (Instr.typeAssert (.iface t v) x t true).run Tryz.prog w = .ok (.tuple #[v, .bool true]) w := by
  simp [Instr.typeAssert, run_underlying hu]
theorem asDecl : ∃ z, ∀ v w, (Instr.typeAssert (.iface 26 v) 20 50 true).run Tryz.prog w = .ok (.tuple #[z, .bool false]) w :=
  assert_other (by decide) Tryz.underlying50 (by
    obtain ⟨j, hj⟩ := Option.isSome_iff_exists.1 (show (Tryz.prog.info? 50).isSome = true by kernel_rfl)
    have h2 : ((Tryz.prog.info? 50).bind fun i => i.zero).isSome = true := by kernel_rfl
    rw [hj] at h2
    obtain ⟨z, hz⟩ := Option.isSome_iff_exists.1 h2
    exact ⟨j, z, hj, hz⟩)
theorem asStmt : ∃ z, ∀ v w, (Instr.typeAssert (.iface 26 v) 20 129 true).run Tryz.prog w = .ok (.tuple #[z, .bool false]) w :=
  assert_other (by decide) Tryz.underlying129 (by
    obtain ⟨j, hj⟩ := Option.isSome_iff_exists.1 (show (Tryz.prog.info? 129).isSome = true by kernel_rfl)
    have h2 : ((Tryz.prog.info? 129).bind fun i => i.zero).isSome = true := by kernel_rfl
    rw [hj] at h2
    obtain ⟨z, hz⟩ := Option.isSome_iff_exists.1 h2
    exact ⟨j, z, hj, hz⟩)
theorem asExpr : ∃ z, ∀ v w, (Instr.typeAssert (.iface 26 v) 20 46 true).run Tryz.prog w = .ok (.tuple #[z, .bool false]) w :=
  assert_other (by decide) Tryz.underlying46 (by
    obtain ⟨j, hj⟩ := Option.isSome_iff_exists.1 (show (Tryz.prog.info? 46).isSome = true by kernel_rfl)
    have h2 : ((Tryz.prog.info? 46).bind fun i => i.zero).isSome = true := by kernel_rfl
    rw [hj] at h2
    obtain ⟨z, hz⟩ := Option.isSome_iff_exists.1 h2
    exact ⟨j, z, hj, hz⟩)

set_option maxRecDepth 100000 in
set_option maxHeartbeats 1000000 in
theorem faultsOf_any (e : G) (w : World) (hin : G.Nd w w.heap.size e) (hO : TfT w) (hS : SpT w) : Calls Tryz.prog 73 #[.iface 26 e.val] w fun r w' => r = .returned (.int .i64 (fx e : Nat)) ∧ Below w.heap.size w w' := by
  obtain ⟨z1, a1⟩ := asDecl
  obtain ⟨z2, a2⟩ := asStmt
  obtain ⟨z3, a3⟩ := asExpr
  have b1 := a1 e.val
  have b2 := a2 e.val
  have b4 := a3 e.val
  have b3 := assert_same (x := 20) Tryz.underlying26 e.val
  clear a1 a2 a3
  have HC : ∀ W : World, Below w.heap.size w W → Calls Tryz.prog 89 #[e.val] W fun r w' => r = .returned (.int .i64 (fx e : Nat)) ∧ Below W.heap.size W w' :=
    fun W hb => faults_any e W ((hin.below hb).more hb.size) (hO.below hb hO.lt) (hS.below' hb hS.lt)
  have HC2 := Lib.hid HC
  clear HC hO hS
  go_enter Tryz.func73, Tryz.ntmps73
  go_wp2_with fail
  refine (HC2.out _ (al1 _ _)).mono ?_
  rintro r w1 ⟨rfl, q⟩
  go_wp2_with fail
  go_ret
  exact ⟨rfl, bTrans (al1 _ _) q⟩
/-- the tables, below block B -/
structure Tb (B : Nat) (w : World) : Prop where
  o : TfT w
  s : SpT w
  lo : 4 < B
  ls : 6 < B
theorem Tb.below {B : Nat} {w w' : World} (h : Tb B w) (hb : Below B w w') : Tb B w' := ⟨h.o.below hb h.lo, h.s.below' hb h.ls, h.lo, h.ls⟩
theorem Tb.more {B B' : Nat} {w : World} (h : Tb B w) (hB : B ≤ B') : Tb B' w := ⟨h.o, h.s, Nat.lt_of_lt_of_le h.lo hB, Nat.lt_of_lt_of_le h.ls hB⟩
theorem Tb.at {w w' : World} (h : Tb w.heap.size w) (hb : Below w.heap.size w w') : Tb w'.heap.size w' := (h.below hb).more hb.size
/-- the visitor's world: a box that holds what was found -/
structure ViW (B b f : Nat) (w wr : World) : Prop where
  box : One wr b (.int .i64 (f : Nat))
  gr : w.grownBy wr (some b)
theorem ViW.bel {B b f : Nat} {w wr : World} (h : ViW B b f w wr) (hB : B ≤ b) (hz : b < w.heap.size) : Below B w wr := bGrown h.gr hB (by omega)
theorem ViW.below {B b f : Nat} {w wr w' : World} (h : ViW B b f w wr) (hb : Below wr.heap.size wr w') : ViW B b f w w' :=
  ⟨h.box.below hb h.box.lt, grown_trans h.gr (grown_of_below hb _)⟩
theorem or_bits {f g : Nat} (hf : f ≤ 7) (hg : g ≤ 7) : bits BinOp.or IntKind.i64 (f : Int) (g : Int) = ((f ||| g : Nat) : Int) := by
  have h : ∀ a b : Fin 8, bits BinOp.or IntKind.i64 (a.val : Int) (b.val : Int) = ((a.val ||| b.val : Nat) : Int) := by decide +kernel
  exact h ⟨f, by omega⟩ ⟨g, by omega⟩
/-- what the visitor leaves -/
def ViP (B b f : Nat) (w : World) (r : Ending) (w' : World) : Prop := r = .returned (.tuple #[]) ∧ w.grownBy w' (some b) ∧ One w' b (.int .i64 (f : Nat))

set_option maxRecDepth 100000 in
set_option maxHeartbeats 1000000 in
theorem vis_any (e : G) (B b f : Nat) (w : World) (hB : B ≤ b) (hin : G.Nd w B e) (hT : Tb B w) (hb : One w b (.int .i64 (f : Nat))) (hf : f ≤ 7) :
    Calls Tryz.prog 72 #[.iface 26 e.val, .pointer (some ⟨b, 0, none⟩)] w (ViP B b (f ||| fx e) w) := by
  have hg : fx e ≤ 7 := G.fv_le _ _ _
  obtain ⟨g, hgv⟩ : ∃ g, Hid (fx e = g) := ⟨_, Lib.hid rfl⟩
  rw [hgv.out] at hg ⊢
  have hbits := or_bits hf hg
  obtain ⟨m, hm⟩ : ∃ m, Hid (f ||| g = m) := ⟨_, Lib.hid rfl⟩
  rw [hm.out] at hbits ⊢
  have HC : ∀ W : World, ViW B b f w W → Calls Tryz.prog 73 #[.iface 26 e.val] W fun r w' => r = .returned (.int .i64 (g : Nat)) ∧ Below W.heap.size W w' := fun W i => by
    rw [← hgv.out]
    have hz := i.box.lt
    have hz0 := hb.lt
    have hbl := i.bel hB hz0
    exact faultsOf_any e W ((hin.below hbl).more (by omega)) (hT.below hbl).o (hT.below hbl).s
  have HC2 := Lib.hid HC
  have i : ViW B b f w w := ⟨hb, grown_refl _ _⟩
  clear HC hT
  go_enter Tryz.func72, Tryz.ntmps72
  go_upto_region 0 with (fail)
  replace i : ViW B b f w w.drew := ⟨i.box.drew, grown_drew i.gr⟩
  have c0 := i.box.c
  go_region_with ((go_at_call 73; refine (HC2.out _ i).mono ?_; rintro r w3 ⟨rfl, hb3⟩; have j := i.below hb3; have g0 := j.box.c; have f0 := j.box.fr 0))
  all_goals
    go_end0
    exact ⟨rfl, grown_trans j.gr (grown_set _ _ _ _), j.box.put _⟩

/-- the contract of the walk over one expression -/
def WkE (e : G) : Prop := ∀ (B b f : Nat) (w : World), B ≤ b → G.In w B e → Tb B w → One w b (.int .i64 (f : Nat)) → f ≤ 7 →
    Calls Tryz.prog 52 #[e.val, .func (.func 72) #[] #[.pointer (some ⟨b, 0, none⟩)]] w (ViP B b (f ||| G.fv (e.any G.mal) (e.any (G.mis fun s => Kx.nameB (bs s))) (e.any G.out)) w)

set_option maxRecDepth 100000 in
set_option maxHeartbeats 1000000 in
theorem walk_any (e : G) : WkE e := by
  induction e using G.ind with
  | h e ih =>
  intro B b f w hB hin hT hb hf
  have IH := Lib.hid ih
  have hlen := hin.nd.len
  have hl := hin.l
  have hsz := hb.lt
  clear ih
  go_enter Tryz.func52, Tryz.ntmps52
  go_wp2_with fail
  refine (vis_any e B b f _ hB (hin.nd.below ?_) (hT.below ?_) (hb.alloc _) hf).mono ?_
  · exact (Below.refl _ _).alloc (by omega) _
  · exact (Below.refl _ _).alloc (by omega) _
  rintro r w1 ⟨rfl, g1, o1⟩
  have c6 : w1.cell? ⟨w.heap.size, 6, none⟩ = some (.slice e.ad e.ks.length e.cap) := grown_cell g1 (by simp) (by omega)
  obtain ⟨A, hA⟩ : ∃ A, Hid (e.ad = A) := ⟨_, Lib.hid rfl⟩
  rw [hA.out] at hl c6
  replace g1 := grown_trans (grown_alloc w _ _) g1
  obtain ⟨f1, hf1⟩ : ∃ f1, Hid (f ||| fx e = f1) := ⟨_, Lib.hid rfl⟩
  rw [hf1.out] at o1
  go_wp2_with fail
  go_loopw [13] (fun iv wr => ∃ (i m : Nat), i ≤ e.ks.length ∧ iv = .int .i64 i ∧ Hid (m = f1 ||| G.fv (G.anyL G.mal (e.ks.take i)) (G.anyL (G.mis fun s => Kx.nameB (bs s)) (e.ks.take i)) (G.anyL G.out (e.ks.take i))) ∧ One wr b (.int .i64 (m : Nat)) ∧ w.grownBy wr (some b)) (fun iv _ => e.ks.length - (intOf iv).toNat)
  case atStart => exact ⟨0, f1, Nat.zero_le _, rfl, Lib.hid (by simp [G.anyL, G.fv]), o1, g1⟩
  case round =>
    clear c6 o1
    obtain ⟨i, m, hi, rfl, hm, ho, hg⟩ := hrel
    by_cases hlt : i < e.ks.length
    · have hbl := bGrown hg hB (by omega)
      obtain ⟨ab, off, k, rfl, hab, ⟨d0, d1, d2, d3, d4, d5, d6⟩, his, hkin⟩ := (hl.below hbl).at_ hlt
      have HI := Lib.hid (show WkE k from IH.out k his.mem)
      have hz := ho.lt
      have hm7 : m ≤ 7 := by
        rw [hm.out, ← hf1.out, show fx e = G.fv _ _ _ from rfl]
        have h1 : ∀ a b : Fin 8, a.val ||| b.val ≤ 7 := by decide
        have h2 := h1 ⟨f, by omega⟩ ⟨_, Nat.lt_succ_of_le (G.fv_le e.mal (G.mis (fun s => Kx.nameB (bs s)) e) e.out)⟩
        have h3 := h1 ⟨_, Nat.lt_succ_of_le h2⟩ ⟨_, Nat.lt_succ_of_le (G.fv_le (G.anyL G.mal (e.ks.take i)) (G.anyL (G.mis fun s => Kx.nameB (bs s)) (e.ks.take i)) (G.anyL G.out (e.ks.take i)))⟩
        exact h3
      have HM : Hid (m ||| G.fv (k.any G.mal) (k.any (G.mis fun s => Kx.nameB (bs s))) (k.any G.out) = f1 ||| G.fv (G.anyL G.mal (e.ks.take (i + 1))) (G.anyL (G.mis fun s => Kx.nameB (bs s)) (e.ks.take (i + 1))) (G.anyL G.out (e.ks.take (i + 1)))) := Lib.hid (by
        rw [his.take, G.anyL_snoc, G.anyL_snoc, G.anyL_snoc, ← G.fv_or, ← Nat.or_assoc, ← hm.out])
      have hbl2 : Below B w (wr.alloc (.cells k.box 26)) := hbl.alloc (by omega) _
      have hT2 := hT.below hbl2
      have hkin2 : G.In (wr.alloc (.cells k.box 26)) B k := hkin.below ((Below.refl _ _).alloc (by omega) _)
      go_wp2_with fail
      refine (HI.out B b m _ hB hkin2 hT2 (ho.alloc _) hm7).mono ?_
      rintro r w2 ⟨rfl, g2, o2⟩
      rw [HM.out] at o2
      replace g2 := grown_trans hg (grown_trans (grown_alloc wr _ _) g2)
      go_wp2_with fail
      go_roundw
      case rel => exact ⟨i + 1, _, by omega, by go_num, Lib.hid rfl, o2, g2⟩
      case measure => simp [intOf]; omega
    · obtain rfl : i = e.ks.length := by omega
      have HR : Hid (m = f ||| G.fv (e.any G.mal) (e.any (G.mis fun s => Kx.nameB (bs s))) (e.any G.out)) := Lib.hid (by
        have := hm.out
        rw [List.take_length, ← hf1.out] at this
        rw [this, G.any_eq, G.any_eq, G.any_eq, ← G.fv_or, Nat.or_assoc]; rfl)
      go_wp2_with fail
      go_end0
      exact ⟨rfl, hg, by rw [← HR.out]; exact ho⟩
end Go.Proofs.YtlifnabeilnblaaGreatDoor
