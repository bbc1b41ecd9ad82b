/- Walks: faultsOfType of package syntax. -/
import Derived.Test.YtlifnabeilnblaaGreatDoorNm
import Derived.Lib.QuietBelow
import Derived.Deep.DeepCutAuto
import Derived.Deep.RegionWith
namespace Go.Proofs.YtlifnabeilnblaaGreatDoor
open Go.RowKit Go.Sort
set_option linter.unusedVariables false

/-- the table of the kinds' fields, where the program's variable lies -/
structure TfT (w : World) : Prop where
  c : ∀ k : Nat, k < 5 → w.cell? ⟨4, k, none⟩ = some (.int .i64 (G.uses k : Nat))
  lt : 4 < w.heap.size
theorem TfT.below {w w' : World} (h : TfT w) {B : Nat} (hb : Below B w w') (hB : 4 < B) : TfT w' :=
  ⟨fun k hk => (hb.cell (p := ⟨_, _, none⟩) hB).trans (h.c k hk), Nat.lt_of_lt_of_le h.lt hb.size⟩
/-- the faults of a node -/
def fx (e : G) : Nat := G.fv e.mal (G.mis nmB e) e.out
theorem fx_bits (a b c : Bool) : bits BinOp.or IntKind.i64 (bits BinOp.or IntKind.i64 (ifB a 1) (ifB b 2)) (ifB c 4) = ((G.fv a b c : Nat) : Int) := by
  cases a <;> cases b <;> cases c <;> decide
def subI (F U : Nat) : Int := bits BinOp.andNot IntKind.i64 (F : Int) (U : Int)
theorem flds_le (e : G) : G.flds e ≤ 127 := by unfold G.flds; (repeat' split) <;> omega
theorem subI_eq {F : Nat} {k : Int} (hF : F ≤ 127) (h0 : 0 ≤ k) (h5 : k < 5) : (subI F (G.uses k) == 0) = G.sub F (G.uses k) := by
  have h : ∀ a : Fin 128, ∀ b : Fin 5, (subI a.val (G.uses (b.val : Int)) == 0) = G.sub a.val (G.uses (b.val : Int)) := by decide +kernel
  have := h ⟨F, by omega⟩ ⟨k.toNat, by omega⟩
  have e1 : ((k.toNat : Nat) : Int) = k := by omega
  simpa [e1] using this
set_option maxRecDepth 100000 in
set_option maxHeartbeats 1000000 in
theorem faults_no (e : G) (w : World) (ho : G.occ e.kd = false) : Calls Tryz.prog 89 #[e.val] w fun r w' => r = .returned (.int .i64 (fx e : Nat)) ∧ Below w.heap.size w w' := by
  have HR : Hid ((1 : Int) = (fx e : Nat)) := Lib.hid (by
    unfold fx G.mal G.mis G.out
    obtain ⟨h1, h2⟩ := G.occ_no (nmB := nmB) ho
    rw [ho, h1, h2]; rfl)
  have HO := Lib.hid ho
  clear ho
  go_enter Tryz.func89, Tryz.ntmps89
  go_wp2_with fail
  refine (occurs_any _ _).mono ?_
  rintro r w1 ⟨rfl, rfl⟩
  rw [HO.out]
  go_wp2_with fail
  go_ret
  exact ⟨ret_int HR.out, al1 _ _⟩
theorem qreg {f : FuncId} {args : Array Value} {w : World} {d : Nat} {os : Array Obj} {v : Value} (h : Calls Tryz.prog f args (grow (redrawn w d) os) fun e w' => e = .returned v ∧ grow (redrawn w d) os = w') :
    Calls Tryz.prog f args (grow (redrawn w d) os) fun e w'' => e = .returned v ∧ ∃ p : Regrown, w'' = grow (redrawn w p.d) p.os :=
  Calls.regrown_of (h.mono fun _ _ ⟨he, hw⟩ => ⟨he, hw ▸ Below.refl _ _⟩)
/-- what faultsOfType answers, its three parts as letters -/
structure Pt (e : G) (f n r : Bool) : Prop where
  eq : bits BinOp.or IntKind.i64 (bits BinOp.or IntKind.i64 (ifB (!f) 1) (ifB (!n) 2)) (ifB (!r) 4) = ((fx e : Nat) : Int)
theorem Pt.mk' {e : G} {f n r : Bool} (ho : G.occ e.kd = true) (hf : G.form e = f) (hn : G.named nmB e = n) (hr : G.inr e = r) : Pt e f n r :=
  ⟨by rw [fx_bits]; unfold fx G.mal G.mis G.out; rw [ho, hf, hn, hr]; rfl⟩
set_option maxRecDepth 100000 in
set_option maxHeartbeats 2000000 in
theorem faults_0 (e : G) (w : World) (hin : G.Nd w w.heap.size e) (hO : TfT w) (hS : SpT w) (hk : e.kd = 0) : Calls Tryz.prog 89 #[e.val] w fun r w' => r = .returned (.int .i64 (fx e : Nat)) ∧ Below w.heap.size w w' := by
  have ho : G.occ e.kd = true := by rw [hk]; rfl
  have HO := Lib.hid ho
  have hlt := hO.lt
  have cg := hO.c 0 (by omega)
  have hU : Hid (G.uses e.kd = 0) := Lib.hid (by rw [hk]; rfl)
  have hU2 : (G.uses ((0 : Nat) : Int)) = 0 := rfl
  rw [hU2] at cg
  obtain ⟨F, hF⟩ : ∃ F, Hid (G.flds e = F) := ⟨_, Lib.hid rfl⟩
  obtain ⟨sb, hsb⟩ : ∃ sb : Bool, Hid ((subI F 0 == 0) = sb) := ⟨_, Lib.hid rfl⟩
  have hsb2 : Hid (G.sub (G.flds e) (G.uses e.kd) = sb) := Lib.hid (by
    rw [← hsb.out, ← subI_eq (flds_le e) (by omega) (by omega), hF.out, hU.out])
  have hlen := hin.len
  have hnlen := hin.nlen
  clear ho hO hU hU2
  go_enter Tryz.func89, Tryz.ntmps89
  go_wp2_with fail
  refine (occurs_any _ _).mono ?_
  rintro r w1 ⟨rfl, rfl⟩
  rw [show G.occ 0 = true from rfl]
  go_upto_region 3 with (fail)
  have X := Eb.start w e 26
  rw [show e.box = #[.int .i64 0, .int .i64 e.lo, .int .i64 e.hi, .int .i64 e.sz, .string e.nm, .slice e.na e.ns.length e.nc, .slice e.ad e.ks.length e.cap] by show #[Value.int .i64 e.kd, _, _, _, _, _, _] = _; rw [hk]] at X
  revert X
  generalize w.alloc (.cells #[.int .i64 0, .int .i64 e.lo, .int .i64 e.hi, .int .i64 e.sz, .string e.nm, .slice e.na e.ns.length e.nc, .slice e.ad e.ks.length e.cap] 26) = w1
  intro X
  replace cg := (X.bel.cell (p := ⟨4, 0, none⟩) hlt).trans cg
  have q1 : ∀ d os, Calls Tryz.prog 110 #[.agg #[.int .i64 0, .int .i64 e.lo, .int .i64 e.hi, .int .i64 e.sz, .string e.nm, .slice e.na e.ns.length e.nc, .slice e.ad e.ks.length e.cap]] (grow (redrawn w1 d) os) fun r w'' => r = .returned (.int .i64 (F : Nat)) ∧ ∃ p : Regrown, w'' = grow (redrawn w1 p.d) p.os :=
    fun d os => Calls.regrown_of (by rw [← hF.out, ← hk]; exact fields_any e _)
  have Q1 := Lib.hid q1
  clear q1
  go_cut [3] (fun s3 wx => s3 = .bool sb ∧ Eb w wx e)
  case first =>
    have k0 := cell_regrown (X.be.c 0 (show e.box[0]? = some (.int .i64 e.kd) from rfl))
    have k1 := cell_regrown (X.be.c 1 (show e.box[1]? = some (.int .i64 e.lo) from rfl))
    have k2 := cell_regrown (X.be.c 2 (show e.box[2]? = some (.int .i64 e.hi) from rfl))
    have k3 := cell_regrown (X.be.c 3 (show e.box[3]? = some (.int .i64 e.sz) from rfl))
    have k4 := cell_regrown (X.be.c 4 (show e.box[4]? = some (.string e.nm) from rfl))
    have k5 := cell_regrown (X.be.c 5 (show e.box[5]? = some (.slice e.na e.ns.length e.nc) from rfl))
    have k6 := cell_regrown (X.be.c 6 (show e.box[6]? = some (.slice e.ad e.ks.length e.cap) from rfl))
    have kg := cell_regrown cg
    have hs := hsb.out
    unfold subI at hs
    rw [hk] at k0
    refine wp_region_quiet_below (by kernel_rfl) (by kernel_rfl) ?_
    repeat (quiet_step ((go_at_call 110; exact Q1.out _ _)))
    refine wpQuiet_nil ?_
    intro _ hw'
    obtain ⟨⟨dq, osq⟩, hw''⟩ := hw'
    subst hw''
    go_wp2_with fail
    go_meet
    exact ⟨congrArg Value.bool hsb.out, X.below (below_regrown _ dq osq)⟩
  case rest =>
    obtain ⟨rfl, Y⟩ := hcut
    clear hsb hF X cg Q1 hlt
    have b1 := Y.bel
    have x0 := Y.be.c 0 (show e.box[0]? = some (.int .i64 e.kd) from rfl)
    rw [hk] at x0
    have HP : Hid (Pt e sb true true) := Lib.hid (Pt.mk' HO.out (by unfold G.form; rw [hsb2.out, hk]; simp) (by unfold G.named; rw [hk]; rfl) (by unfold G.inr; rw [hk]; rfl))
    clear hsb2
    go_wp2_with fail
    refine (when_any _ _ _).mono ?_
    rintro r w3 ⟨rfl, rfl⟩
    go_wp2_with fail
    refine (when_any _ _ _).mono ?_
    rintro r w3 ⟨rfl, rfl⟩
    go_wp2_with fail
    refine (when_any _ _ _).mono ?_
    rintro r w3 ⟨rfl, rfl⟩
    go_wp2_with fail
    go_ret
    exact ⟨ret_int HP.out.eq, b1⟩
set_option maxRecDepth 100000 in
set_option maxHeartbeats 2000000 in
theorem faults_1 (e : G) (w : World) (hin : G.Nd w w.heap.size e) (hO : TfT w) (hS : SpT w) (hk : e.kd = 1) : Calls Tryz.prog 89 #[e.val] w fun r w' => r = .returned (.int .i64 (fx e : Nat)) ∧ Below w.heap.size w w' := by
  have ho : G.occ e.kd = true := by rw [hk]; rfl
  have HO := Lib.hid ho
  have hlt := hO.lt
  have cg := hO.c 1 (by omega)
  have hU : Hid (G.uses e.kd = 8) := Lib.hid (by rw [hk]; rfl)
  have hU2 : (G.uses ((1 : Nat) : Int)) = 8 := rfl
  rw [hU2] at cg
  obtain ⟨F, hF⟩ : ∃ F, Hid (G.flds e = F) := ⟨_, Lib.hid rfl⟩
  obtain ⟨sb, hsb⟩ : ∃ sb : Bool, Hid ((subI F 8 == 0) = sb) := ⟨_, Lib.hid rfl⟩
  have hsb2 : Hid (G.sub (G.flds e) (G.uses e.kd) = sb) := Lib.hid (by
    rw [← hsb.out, ← subI_eq (flds_le e) (by omega) (by omega), hF.out, hU.out])
  have hlen := hin.len
  have hnlen := hin.nlen
  clear ho hO hU hU2
  go_enter Tryz.func89, Tryz.ntmps89
  go_wp2_with fail
  refine (occurs_any _ _).mono ?_
  rintro r w1 ⟨rfl, rfl⟩
  rw [show G.occ 1 = true from rfl]
  go_upto_region 3 with (fail)
  have X := Eb.start w e 26
  rw [show e.box = #[.int .i64 1, .int .i64 e.lo, .int .i64 e.hi, .int .i64 e.sz, .string e.nm, .slice e.na e.ns.length e.nc, .slice e.ad e.ks.length e.cap] by show #[Value.int .i64 e.kd, _, _, _, _, _, _] = _; rw [hk]] at X
  revert X
  generalize w.alloc (.cells #[.int .i64 1, .int .i64 e.lo, .int .i64 e.hi, .int .i64 e.sz, .string e.nm, .slice e.na e.ns.length e.nc, .slice e.ad e.ks.length e.cap] 26) = w1
  intro X
  replace cg := (X.bel.cell (p := ⟨4, 1, none⟩) hlt).trans cg
  have q1 : ∀ d os, Calls Tryz.prog 110 #[.agg #[.int .i64 1, .int .i64 e.lo, .int .i64 e.hi, .int .i64 e.sz, .string e.nm, .slice e.na e.ns.length e.nc, .slice e.ad e.ks.length e.cap]] (grow (redrawn w1 d) os) fun r w'' => r = .returned (.int .i64 (F : Nat)) ∧ ∃ p : Regrown, w'' = grow (redrawn w1 p.d) p.os :=
    fun d os => Calls.regrown_of (by rw [← hF.out, ← hk]; exact fields_any e _)
  have Q1 := Lib.hid q1
  clear q1
  go_cut [3] (fun s3 wx => s3 = .bool sb ∧ Eb w wx e)
  case first =>
    have k0 := cell_regrown (X.be.c 0 (show e.box[0]? = some (.int .i64 e.kd) from rfl))
    have k1 := cell_regrown (X.be.c 1 (show e.box[1]? = some (.int .i64 e.lo) from rfl))
    have k2 := cell_regrown (X.be.c 2 (show e.box[2]? = some (.int .i64 e.hi) from rfl))
    have k3 := cell_regrown (X.be.c 3 (show e.box[3]? = some (.int .i64 e.sz) from rfl))
    have k4 := cell_regrown (X.be.c 4 (show e.box[4]? = some (.string e.nm) from rfl))
    have k5 := cell_regrown (X.be.c 5 (show e.box[5]? = some (.slice e.na e.ns.length e.nc) from rfl))
    have k6 := cell_regrown (X.be.c 6 (show e.box[6]? = some (.slice e.ad e.ks.length e.cap) from rfl))
    have kg := cell_regrown cg
    have hs := hsb.out
    unfold subI at hs
    rw [hk] at k0
    refine wp_region_quiet_below (by kernel_rfl) (by kernel_rfl) ?_
    repeat (quiet_step ((go_at_call 110; exact Q1.out _ _)))
    refine wpQuiet_nil ?_
    intro _ hw'
    obtain ⟨⟨dq, osq⟩, hw''⟩ := hw'
    subst hw''
    go_wp2_with fail
    go_meet
    exact ⟨congrArg Value.bool hsb.out, X.below (below_regrown _ dq osq)⟩
  case rest =>
    obtain ⟨rfl, Y⟩ := hcut
    clear hsb hF X cg Q1 hlt
    have b1 := Y.bel
    have x0 := Y.be.c 0 (show e.box[0]? = some (.int .i64 e.kd) from rfl)
    rw [hk] at x0
    have HP : Hid (Pt e sb true (G.ival e.lo e.hi)) := Lib.hid (Pt.mk' HO.out (by unfold G.form; rw [hsb2.out, hk]; simp) (by unfold G.named; rw [hk]; rfl) (by unfold G.inr; rw [hk]; simp))
    clear hsb2
    have x1 := Y.be.c 1 (show e.box[1]? = some (.int .i64 e.lo) from rfl)
    have x2 := Y.be.c 2 (show e.box[2]? = some (.int .i64 e.hi) from rfl)
    go_wp2_with fail
    refine (interval_any _ _ _).mono ?_
    rintro r w2 ⟨rfl, rfl⟩
    go_wp2_with fail
    refine (when_any _ _ _).mono ?_
    rintro r w3 ⟨rfl, rfl⟩
    go_wp2_with fail
    refine (when_any _ _ _).mono ?_
    rintro r w3 ⟨rfl, rfl⟩
    go_wp2_with fail
    refine (when_any _ _ _).mono ?_
    rintro r w3 ⟨rfl, rfl⟩
    go_wp2_with fail
    go_ret
    exact ⟨ret_int HP.out.eq, b1⟩
set_option maxRecDepth 100000 in
set_option maxHeartbeats 2000000 in
theorem faults_2 (e : G) (w : World) (hin : G.Nd w w.heap.size e) (hO : TfT w) (hS : SpT w) (hk : e.kd = 2) : Calls Tryz.prog 89 #[e.val] w fun r w' => r = .returned (.int .i64 (fx e : Nat)) ∧ Below w.heap.size w w' := by
  have ho : G.occ e.kd = true := by rw [hk]; rfl
  have HO := Lib.hid ho
  have hlt := hO.lt
  have cg := hO.c 2 (by omega)
  have hU : Hid (G.uses e.kd = 80) := Lib.hid (by rw [hk]; rfl)
  have hU2 : (G.uses ((2 : Nat) : Int)) = 80 := rfl
  rw [hU2] at cg
  obtain ⟨F, hF⟩ : ∃ F, Hid (G.flds e = F) := ⟨_, Lib.hid rfl⟩
  obtain ⟨sb, hsb⟩ : ∃ sb : Bool, Hid ((subI F 80 == 0) = sb) := ⟨_, Lib.hid rfl⟩
  have hsb2 : Hid (G.sub (G.flds e) (G.uses e.kd) = sb) := Lib.hid (by
    rw [← hsb.out, ← subI_eq (flds_le e) (by omega) (by omega), hF.out, hU.out])
  have hlen := hin.len
  have hnlen := hin.nlen
  clear ho hO hU hU2
  go_enter Tryz.func89, Tryz.ntmps89
  go_wp2_with fail
  refine (occurs_any _ _).mono ?_
  rintro r w1 ⟨rfl, rfl⟩
  rw [show G.occ 2 = true from rfl]
  go_upto_region 3 with (fail)
  have X := Eb.start w e 26
  rw [show e.box = #[.int .i64 2, .int .i64 e.lo, .int .i64 e.hi, .int .i64 e.sz, .string e.nm, .slice e.na e.ns.length e.nc, .slice e.ad e.ks.length e.cap] by show #[Value.int .i64 e.kd, _, _, _, _, _, _] = _; rw [hk]] at X
  revert X
  generalize w.alloc (.cells #[.int .i64 2, .int .i64 e.lo, .int .i64 e.hi, .int .i64 e.sz, .string e.nm, .slice e.na e.ns.length e.nc, .slice e.ad e.ks.length e.cap] 26) = w1
  intro X
  replace cg := (X.bel.cell (p := ⟨4, 2, none⟩) hlt).trans cg
  have q1 : ∀ d os, Calls Tryz.prog 110 #[.agg #[.int .i64 2, .int .i64 e.lo, .int .i64 e.hi, .int .i64 e.sz, .string e.nm, .slice e.na e.ns.length e.nc, .slice e.ad e.ks.length e.cap]] (grow (redrawn w1 d) os) fun r w'' => r = .returned (.int .i64 (F : Nat)) ∧ ∃ p : Regrown, w'' = grow (redrawn w1 p.d) p.os :=
    fun d os => Calls.regrown_of (by rw [← hF.out, ← hk]; exact fields_any e _)
  have Q1 := Lib.hid q1
  clear q1
  go_cut [3] (fun s3 wx => s3 = .bool sb ∧ Eb w wx e)
  case first =>
    have k0 := cell_regrown (X.be.c 0 (show e.box[0]? = some (.int .i64 e.kd) from rfl))
    have k1 := cell_regrown (X.be.c 1 (show e.box[1]? = some (.int .i64 e.lo) from rfl))
    have k2 := cell_regrown (X.be.c 2 (show e.box[2]? = some (.int .i64 e.hi) from rfl))
    have k3 := cell_regrown (X.be.c 3 (show e.box[3]? = some (.int .i64 e.sz) from rfl))
    have k4 := cell_regrown (X.be.c 4 (show e.box[4]? = some (.string e.nm) from rfl))
    have k5 := cell_regrown (X.be.c 5 (show e.box[5]? = some (.slice e.na e.ns.length e.nc) from rfl))
    have k6 := cell_regrown (X.be.c 6 (show e.box[6]? = some (.slice e.ad e.ks.length e.cap) from rfl))
    have kg := cell_regrown cg
    have hs := hsb.out
    unfold subI at hs
    rw [hk] at k0
    refine wp_region_quiet_below (by kernel_rfl) (by kernel_rfl) ?_
    repeat (quiet_step ((go_at_call 110; exact Q1.out _ _)))
    refine wpQuiet_nil ?_
    intro _ hw'
    obtain ⟨⟨dq, osq⟩, hw''⟩ := hw'
    subst hw''
    go_wp2_with fail
    go_meet
    exact ⟨congrArg Value.bool hsb.out, X.below (below_regrown _ dq osq)⟩
  case rest =>
    obtain ⟨rfl, Y⟩ := hcut
    clear hsb hF X cg Q1 hlt
    have b1 := Y.bel
    have x0 := Y.be.c 0 (show e.box[0]? = some (.int .i64 e.kd) from rfl)
    rw [hk] at x0
    obtain ⟨lb, hlb⟩ : ∃ lb : Bool, Hid ((e.ks.length == 1) = lb) := ⟨_, Lib.hid rfl⟩
    have hl := hlb.out
    have hlI : (((e.ks.length : Nat) : Int) == 1) = lb := by rw [← hlb.out, Bool.eq_iff_iff]; simp; omega
    have HP : Hid (Pt e (sb && lb) true (withB e.sz 1 32)) := Lib.hid (Pt.mk' HO.out (by unfold G.form; rw [hsb2.out, hk, ← hlb.out]; rw [Bool.eq_iff_iff]; simp) (by unfold G.named; rw [hk]; rfl) (by unfold G.inr; rw [hk]; simp [withB]))
    clear hsb2 hlb hl
    have x3 := Y.be.c 3 (show e.box[3]? = some (.int .i64 e.sz) from rfl)
    have x6 := Y.be.c 6 (show e.box[6]? = some (.slice e.ad e.ks.length e.cap) from rfl)
    cases sb
    all_goals
      go_wp2_with fail
      refine (within_any _ _ _ _).mono ?_
      rintro r w2 ⟨rfl, rfl⟩
      go_wp2_with fail
      refine (when_any _ _ _).mono ?_
      rintro r w3 ⟨rfl, rfl⟩
      go_wp2_with fail
      refine (when_any _ _ _).mono ?_
      rintro r w3 ⟨rfl, rfl⟩
      go_wp2_with fail
      refine (when_any _ _ _).mono ?_
      rintro r w3 ⟨rfl, rfl⟩
      go_wp2_with fail
      go_ret
      exact ⟨ret_int HP.out.eq, b1⟩
set_option maxRecDepth 100000 in
set_option maxHeartbeats 2000000 in
theorem faults_3 (e : G) (w : World) (hin : G.Nd w w.heap.size e) (hO : TfT w) (hS : SpT w) (hk : e.kd = 3) : Calls Tryz.prog 89 #[e.val] w fun r w' => r = .returned (.int .i64 (fx e : Nat)) ∧ Below w.heap.size w w' := by
  have ho : G.occ e.kd = true := by rw [hk]; rfl
  have HO := Lib.hid ho
  have hlt := hO.lt
  have cg := hO.c 3 (by omega)
  have hU : Hid (G.uses e.kd = 96) := Lib.hid (by rw [hk]; rfl)
  have hU2 : (G.uses ((3 : Nat) : Int)) = 96 := rfl
  rw [hU2] at cg
  obtain ⟨F, hF⟩ : ∃ F, Hid (G.flds e = F) := ⟨_, Lib.hid rfl⟩
  obtain ⟨sb, hsb⟩ : ∃ sb : Bool, Hid ((subI F 96 == 0) = sb) := ⟨_, Lib.hid rfl⟩
  have hsb2 : Hid (G.sub (G.flds e) (G.uses e.kd) = sb) := Lib.hid (by
    rw [← hsb.out, ← subI_eq (flds_le e) (by omega) (by omega), hF.out, hU.out])
  have hlen := hin.len
  have hnlen := hin.nlen
  clear ho hO hU hU2
  go_enter Tryz.func89, Tryz.ntmps89
  go_wp2_with fail
  refine (occurs_any _ _).mono ?_
  rintro r w1 ⟨rfl, rfl⟩
  rw [show G.occ 3 = true from rfl]
  go_upto_region 3 with (fail)
  have X := Eb.start w e 26
  rw [show e.box = #[.int .i64 3, .int .i64 e.lo, .int .i64 e.hi, .int .i64 e.sz, .string e.nm, .slice e.na e.ns.length e.nc, .slice e.ad e.ks.length e.cap] by show #[Value.int .i64 e.kd, _, _, _, _, _, _] = _; rw [hk]] at X
  revert X
  generalize w.alloc (.cells #[.int .i64 3, .int .i64 e.lo, .int .i64 e.hi, .int .i64 e.sz, .string e.nm, .slice e.na e.ns.length e.nc, .slice e.ad e.ks.length e.cap] 26) = w1
  intro X
  replace cg := (X.bel.cell (p := ⟨4, 3, none⟩) hlt).trans cg
  have q1 : ∀ d os, Calls Tryz.prog 110 #[.agg #[.int .i64 3, .int .i64 e.lo, .int .i64 e.hi, .int .i64 e.sz, .string e.nm, .slice e.na e.ns.length e.nc, .slice e.ad e.ks.length e.cap]] (grow (redrawn w1 d) os) fun r w'' => r = .returned (.int .i64 (F : Nat)) ∧ ∃ p : Regrown, w'' = grow (redrawn w1 p.d) p.os :=
    fun d os => Calls.regrown_of (by rw [← hF.out, ← hk]; exact fields_any e _)
  have Q1 := Lib.hid q1
  clear q1
  go_cut [3] (fun s3 wx => s3 = .bool sb ∧ Eb w wx e)
  case first =>
    have k0 := cell_regrown (X.be.c 0 (show e.box[0]? = some (.int .i64 e.kd) from rfl))
    have k1 := cell_regrown (X.be.c 1 (show e.box[1]? = some (.int .i64 e.lo) from rfl))
    have k2 := cell_regrown (X.be.c 2 (show e.box[2]? = some (.int .i64 e.hi) from rfl))
    have k3 := cell_regrown (X.be.c 3 (show e.box[3]? = some (.int .i64 e.sz) from rfl))
    have k4 := cell_regrown (X.be.c 4 (show e.box[4]? = some (.string e.nm) from rfl))
    have k5 := cell_regrown (X.be.c 5 (show e.box[5]? = some (.slice e.na e.ns.length e.nc) from rfl))
    have k6 := cell_regrown (X.be.c 6 (show e.box[6]? = some (.slice e.ad e.ks.length e.cap) from rfl))
    have kg := cell_regrown cg
    have hs := hsb.out
    unfold subI at hs
    rw [hk] at k0
    refine wp_region_quiet_below (by kernel_rfl) (by kernel_rfl) ?_
    repeat (quiet_step ((go_at_call 110; exact Q1.out _ _)))
    refine wpQuiet_nil ?_
    intro _ hw'
    obtain ⟨⟨dq, osq⟩, hw''⟩ := hw'
    subst hw''
    go_wp2_with fail
    go_meet
    exact ⟨congrArg Value.bool hsb.out, X.below (below_regrown _ dq osq)⟩
  case rest =>
    obtain ⟨rfl, Y⟩ := hcut
    clear hsb hF X cg Q1 hlt
    have b1 := Y.bel
    have x0 := Y.be.c 0 (show e.box[0]? = some (.int .i64 e.kd) from rfl)
    rw [hk] at x0
    obtain ⟨lb, hlb⟩ : ∃ lb : Bool, Hid (decide (1 ≤ e.ks.length) = lb) := ⟨_, Lib.hid rfl⟩
    obtain ⟨mb, hmb⟩ : ∃ mb : Bool, Hid (decide (e.ks.length = e.ns.length) = mb) := ⟨_, Lib.hid rfl⟩
    have hlI : decide ((1 : Int) ≤ ((e.ks.length : Nat) : Int)) = lb := by rw [← hlb.out, decide_eq_decide]; omega
    have hmI : (((e.ks.length : Nat) : Int) == ((e.ns.length : Nat) : Int)) = mb := by rw [← hmb.out, Bool.eq_iff_iff]; simp; omega
    have hrI : Hid (decide (((e.ks.length : Nat) : Int) ≤ 32) = decide (e.ks.length ≤ 32)) := Lib.hid (by rw [decide_eq_decide]; omega)
    have HP : Hid (Pt e (sb && lb && mb) (e.ns.all nmB) (decide (((e.ks.length : Nat) : Int) ≤ 32))) := Lib.hid (Pt.mk' HO.out (by unfold G.form; rw [hsb2.out, hk, hlb.out, hmb.out]; cases sb <;> simp) (by unfold G.named; rw [hk]; simp) (by rw [hrI.out]; unfold G.inr; rw [hk]; simp))
    have HN : ∀ W : World, Below w.heap.size w W → Calls Tryz.prog 111 #[.slice e.na e.ns.length e.nc, .func (.func 112) #[] #[]] W fun r w' => r = .returned (.bool (!e.ns.all nmB)) ∧ Below W.heap.size W w' :=
      fun W hb => ncontains_any e W ((hin.below hb).more hb.size) (hS.below' hb hS.lt)
    have HN2 := Lib.hid HN
    clear hsb2 hlb hmb hrI HN
    obtain ⟨na, hna⟩ : ∃ na : Bool, Hid (e.ns.all nmB = na) := ⟨_, Lib.hid rfl⟩
    rw [hna.out] at HP HN2
    have x5 := Y.be.c 5 (show e.box[5]? = some (.slice e.na e.ns.length e.nc) from rfl)
    have x6 := Y.be.c 6 (show e.box[6]? = some (.slice e.ad e.ks.length e.cap) from rfl)
    cases sb
    all_goals cases lb
    all_goals
      go_wp2_with fail
      refine (HN2.out _ b1).mono ?_
      rintro r w2 ⟨rfl, b2⟩
      have b3 := bTrans b1 b2
      have Z := Y.below b2
      have y6 := Z.be.c 6 (show e.box[6]? = some (.slice e.ad e.ks.length e.cap) from rfl)
      go_wp2_with fail
      refine (when_any _ _ _).mono ?_
      rintro r w3 ⟨rfl, rfl⟩
      go_wp2_with fail
      refine (when_any _ _ _).mono ?_
      rintro r w3 ⟨rfl, rfl⟩
      go_wp2_with fail
      refine (when_any _ _ _).mono ?_
      rintro r w3 ⟨rfl, rfl⟩
      go_wp2_with fail
      go_ret
      exact ⟨ret_int (by have := HP.out.eq; simpa using this), b3⟩
set_option maxRecDepth 100000 in
set_option maxHeartbeats 2000000 in
theorem faults_4 (e : G) (w : World) (hin : G.Nd w w.heap.size e) (hO : TfT w) (hS : SpT w) (hk : e.kd = 4) : Calls Tryz.prog 89 #[e.val] w fun r w' => r = .returned (.int .i64 (fx e : Nat)) ∧ Below w.heap.size w w' := by
  have ho : G.occ e.kd = true := by rw [hk]; rfl
  have HO := Lib.hid ho
  have hlt := hO.lt
  have cg := hO.c 4 (by omega)
  have hU : Hid (G.uses e.kd = 2) := Lib.hid (by rw [hk]; rfl)
  have hU2 : (G.uses ((4 : Nat) : Int)) = 2 := rfl
  rw [hU2] at cg
  obtain ⟨F, hF⟩ : ∃ F, Hid (G.flds e = F) := ⟨_, Lib.hid rfl⟩
  obtain ⟨sb, hsb⟩ : ∃ sb : Bool, Hid ((subI F 2 == 0) = sb) := ⟨_, Lib.hid rfl⟩
  have hsb2 : Hid (G.sub (G.flds e) (G.uses e.kd) = sb) := Lib.hid (by
    rw [← hsb.out, ← subI_eq (flds_le e) (by omega) (by omega), hF.out, hU.out])
  have hlen := hin.len
  have hnlen := hin.nlen
  clear ho hO hU hU2
  go_enter Tryz.func89, Tryz.ntmps89
  go_wp2_with fail
  refine (occurs_any _ _).mono ?_
  rintro r w1 ⟨rfl, rfl⟩
  rw [show G.occ 4 = true from rfl]
  go_upto_region 3 with (fail)
  have X := Eb.start w e 26
  rw [show e.box = #[.int .i64 4, .int .i64 e.lo, .int .i64 e.hi, .int .i64 e.sz, .string e.nm, .slice e.na e.ns.length e.nc, .slice e.ad e.ks.length e.cap] by show #[Value.int .i64 e.kd, _, _, _, _, _, _] = _; rw [hk]] at X
  revert X
  generalize w.alloc (.cells #[.int .i64 4, .int .i64 e.lo, .int .i64 e.hi, .int .i64 e.sz, .string e.nm, .slice e.na e.ns.length e.nc, .slice e.ad e.ks.length e.cap] 26) = w1
  intro X
  replace cg := (X.bel.cell (p := ⟨4, 4, none⟩) hlt).trans cg
  have q1 : ∀ d os, Calls Tryz.prog 110 #[.agg #[.int .i64 4, .int .i64 e.lo, .int .i64 e.hi, .int .i64 e.sz, .string e.nm, .slice e.na e.ns.length e.nc, .slice e.ad e.ks.length e.cap]] (grow (redrawn w1 d) os) fun r w'' => r = .returned (.int .i64 (F : Nat)) ∧ ∃ p : Regrown, w'' = grow (redrawn w1 p.d) p.os :=
    fun d os => Calls.regrown_of (by rw [← hF.out, ← hk]; exact fields_any e _)
  have Q1 := Lib.hid q1
  clear q1
  go_cut [3] (fun s3 wx => s3 = .bool sb ∧ Eb w wx e)
  case first =>
    have k0 := cell_regrown (X.be.c 0 (show e.box[0]? = some (.int .i64 e.kd) from rfl))
    have k1 := cell_regrown (X.be.c 1 (show e.box[1]? = some (.int .i64 e.lo) from rfl))
    have k2 := cell_regrown (X.be.c 2 (show e.box[2]? = some (.int .i64 e.hi) from rfl))
    have k3 := cell_regrown (X.be.c 3 (show e.box[3]? = some (.int .i64 e.sz) from rfl))
    have k4 := cell_regrown (X.be.c 4 (show e.box[4]? = some (.string e.nm) from rfl))
    have k5 := cell_regrown (X.be.c 5 (show e.box[5]? = some (.slice e.na e.ns.length e.nc) from rfl))
    have k6 := cell_regrown (X.be.c 6 (show e.box[6]? = some (.slice e.ad e.ks.length e.cap) from rfl))
    have kg := cell_regrown cg
    have hs := hsb.out
    unfold subI at hs
    rw [hk] at k0
    refine wp_region_quiet_below (by kernel_rfl) (by kernel_rfl) ?_
    repeat (quiet_step ((go_at_call 110; exact Q1.out _ _)))
    refine wpQuiet_nil ?_
    intro _ hw'
    obtain ⟨⟨dq, osq⟩, hw''⟩ := hw'
    subst hw''
    go_wp2_with fail
    go_meet
    exact ⟨congrArg Value.bool hsb.out, X.below (below_regrown _ dq osq)⟩
  case rest =>
    obtain ⟨rfl, Y⟩ := hcut
    clear hsb hF X cg Q1 hlt
    have b1 := Y.bel
    have x0 := Y.be.c 0 (show e.box[0]? = some (.int .i64 e.kd) from rfl)
    rw [hk] at x0
    have HP : Hid (Pt e sb (nmB e.nm) true) := Lib.hid (Pt.mk' HO.out (by unfold G.form; rw [hsb2.out, hk]; simp) (by unfold G.named; rw [hk]; simp) (by unfold G.inr; rw [hk]; rfl))
    clear hsb2
    have x4 := Y.be.c 4 (show e.box[4]? = some (.string e.nm) from rfl)
    have hT2 := hS.below' Y.bel hS.lt
    go_wp2_with fail
    refine (sisname_any _ hin.nm _ hT2).mono ?_
    rintro r w2 ⟨rfl, b2⟩
    have b3 := bTrans b1 b2
    go_wp2_with fail
    refine (when_any _ _ _).mono ?_
    rintro r w3 ⟨rfl, rfl⟩
    go_wp2_with fail
    refine (when_any _ _ _).mono ?_
    rintro r w3 ⟨rfl, rfl⟩
    go_wp2_with fail
    refine (when_any _ _ _).mono ?_
    rintro r w3 ⟨rfl, rfl⟩
    go_wp2_with fail
    go_ret
    exact ⟨ret_int HP.out.eq, b3⟩
theorem faults_any (e : G) (w : World) (hin : G.Nd w w.heap.size e) (hO : TfT w) (hS : SpT w) : Calls Tryz.prog 89 #[e.val] w fun r w' => r = .returned (.int .i64 (fx e : Nat)) ∧ Below w.heap.size w w' := by
  cases ho : G.occ e.kd with
  | false => exact faults_no e w ho
  | true =>
    unfold G.occ at ho
    simp only [Bool.and_eq_true, decide_eq_true_eq] at ho
    obtain h | h | h | h | h : e.kd = 0 ∨ e.kd = 1 ∨ e.kd = 2 ∨ e.kd = 3 ∨ e.kd = 4 := by omega
    · exact faults_0 e w hin hO hS h
    · exact faults_1 e w hin hO hS h
    · exact faults_2 e w hin hO hS h
    · exact faults_3 e w hin hO hS h
    · exact faults_4 e w hin hO hS h
end Go.Proofs.YtlifnabeilnblaaGreatDoor
