/- Walks: faultsOfExpr of package syntax. -/
import Derived.Test.YtmemkcaikajnnaaGreatDoorFe
import Derived.Lib.QuietBelow
import Derived.Deep.DeepCutAuto
import Derived.Deep.RegionWith
namespace Go.Proofs.YtmemkcaikajnnaaGreatDoor
open Go.RowKit Go.Sort
set_option linter.unusedVariables false

/-- a row of the table of operators: where it lies -/
structure OpRow (w : World) (o : Nat) (s : ByteArray) (l a b c : Int) : Prop where
  c0 : w.cell? ⟨9, o * 7, none⟩ = some (.int .i64 (E.uses o : Nat))
  c1 : w.cell? ⟨9, o * 7 + 1, none⟩ = some (.int .i64 (E.arity o : Nat))
  c2 : w.cell? ⟨9, o * 7 + 2, none⟩ = some (.string s)
  c3 : w.cell? ⟨9, o * 7 + 3, none⟩ = some (.int .i64 l)
  c4 : w.cell? ⟨9, o * 7 + 4, none⟩ = some (.int .i64 a)
  c5 : w.cell? ⟨9, o * 7 + 5, none⟩ = some (.int .i64 b)
  c6 : w.cell? ⟨9, o * 7 + 6, none⟩ = some (.int .i64 c)
/-- the table of operators, where the program's variable lies -/
structure OpT (w : World) : Prop where
  row : ∀ o : Nat, o < 24 → ∃ s l a b c, OpRow w o s l a b c
  lt : 9 < w.heap.size
theorem OpRow.below {w w' : World} {o : Nat} {s : ByteArray} {l a b c : Int} (h : OpRow w o s l a b c) {B : Nat} (hb : Below B w w') (hB : 9 < B) : OpRow w' o s l a b c :=
  ⟨(hb.cell (p := ⟨_, _, none⟩) hB).trans h.c0, (hb.cell (p := ⟨_, _, none⟩) hB).trans h.c1, (hb.cell (p := ⟨_, _, none⟩) hB).trans h.c2, (hb.cell (p := ⟨_, _, none⟩) hB).trans h.c3, (hb.cell (p := ⟨_, _, none⟩) hB).trans h.c4, (hb.cell (p := ⟨_, _, none⟩) hB).trans h.c5, (hb.cell (p := ⟨_, _, none⟩) hB).trans h.c6⟩
theorem OpT.below {w w' : World} (h : OpT w) {B : Nat} (hb : Below B w w') (hB : 9 < B) : OpT w' :=
  ⟨fun o ho => by obtain ⟨s, l, a, b, c, r⟩ := h.row o ho; exact ⟨s, l, a, b, c, r.below hb hB⟩, Nat.lt_of_lt_of_le h.lt hb.size⟩
theorem OpT.at {w w' : World} (h : OpT w) (hb : Below w.heap.size w w') : OpT w' := h.below hb h.lt
theorem SpT.below' {w w' : World} (h : SpT w) {B : Nat} (hb : Below B w w') (hB : 13 < B) : SpT w' :=
  ⟨fun c hc => (hb.cell (p := ⟨_, _, none⟩) hB).trans (h.cell c hc), Nat.lt_of_lt_of_le h.lt hb.size⟩

/-- the faults of a node -/
def fx (e : E) : Nat := E.fv e.mal (E.mis (fun s => Kx.nameB (bs s)) e) e.out

set_option maxRecDepth 100000 in
set_option maxHeartbeats 1000000 in
theorem faults_no (e : E) (w : World) (ho : E.occ e.op = false) : Calls Tryz.prog 115 #[e.val] w fun r w' => r = .returned (.int .i64 (fx e : Nat)) ∧ Below w.heap.size w w' := by
  have HR : Hid ((1 : Int) = (fx e : Nat)) := Lib.hid (by
    unfold fx E.mal E.mis
    rw [ho]
    have : E.out e = false := by
      unfold E.out
      unfold E.occ at ho
      by_cases h : e.op = 0
      · rw [h] at ho; exact absurd ho (by decide)
      · have : (e.op == 0) = false := by simpa using h
        rw [this]; rfl
    rw [this]; rfl)
  have HO := Lib.hid ho
  clear ho
  go_enter Tryz.func115, Tryz.ntmps115
  go_wp2_with fail
  refine (occurs_any _ _).mono ?_
  rintro r w1 ⟨rfl, rfl⟩
  rw [HO.out]
  go_wp2_with fail
  go_ret
  exact ⟨ret_int HR.out, al1 _ _⟩

/-- an expression in a box -/
abbrev E.box (e : E) : Array Value := #[.int .i64 e.op, .int .i64 e.n, .string e.nm, .slice e.ad e.ks.length e.cap]
/-- the boxes of faultsOfExpr -/
structure FxW (w wr : World) (e : E) (U K : Nat) (s : ByteArray) (l a b c : Int) : Prop where
  be : Blk wr w.heap.size e.box
  bo : Blk wr (w.heap.size + 1) #[.int .i64 (U : Nat), .int .i64 (K : Nat), .string s, .int .i64 l, .int .i64 a, .int .i64 b, .int .i64 c]
  bel : Below w.heap.size w wr
theorem FxW.below {w wr w' : World} {e : E} {U K : Nat} {s : ByteArray} {l a b c : Int} (h : FxW w wr e U K s l a b c) (hb : Below wr.heap.size wr w') : FxW w w' e U K s l a b c :=
  ⟨h.be.below hb h.be.lt, h.bo.below hb h.bo.lt, bTrans h.bel hb⟩
theorem FxW.start (w : World) (e : E) (U K : Nat) (s : ByteArray) (l a b c : Int) (T T' : TypeId) :
    FxW w ((w.alloc (.cells e.box T)).alloc (.cells #[.int .i64 (U : Nat), .int .i64 (K : Nat), .string s, .int .i64 l, .int .i64 a, .int .i64 b, .int .i64 c] T')) e U K s l a b c :=
  ⟨(Blk.new_ _ _ _).alloc _, by
    have := Blk.new_ (w.alloc (.cells e.box T)) #[.int .i64 (U : Nat), .int .i64 (K : Nat), .string s, .int .i64 l, .int .i64 a, .int .i64 b, .int .i64 c] T'
    rwa [World.size_alloc] at this, (al1 w _).alloc (by simp) _⟩
theorem hd_is {l : List E} {e : E} (h : E.Is l 0 e) : E.hd l = e.place := by
  obtain ⟨h1, h2⟩ := h.eq
  cases l with
  | nil => exact absurd h1 (by simp)
  | cons a l => rw [← h2]; rfl
theorem qreg {f : FuncId} {args : Array Value} {w : World} {d : Nat} {os : Array Obj} {v : Value} (h : Calls Tryz.prog f args (grow (redrawn w d) os) fun e w' => e = .returned v ∧ grow (redrawn w d) os = w') :
    Calls Tryz.prog f args (grow (redrawn w d) os) fun e w'' => e = .returned v ∧ ∃ p : Regrown, w'' = grow (redrawn w p.d) p.os :=
  Calls.regrown_of (h.mono fun _ _ ⟨he, hw⟩ => ⟨he, hw ▸ Below.refl _ _⟩)
theorem fx_bits (a b c : Bool) : bits BinOp.or IntKind.i64 (bits BinOp.or IntKind.i64 (ifB a 1) (ifB b 2)) (ifB c 4) = ((E.fv a b c : Nat) : Int) := by
  cases a <;> cases b <;> cases c <;> decide
def subI (F U : Nat) : Int := bits BinOp.andNot IntKind.i64 (F : Int) (U : Int)
theorem subI_eq {F U : Nat} (hF : F ≤ 7) (hU : U ≤ 7) : (subI F U == 0) = E.sub F U := by
  have h : ∀ a b : Fin 8, (subI a.val b.val == 0) = E.sub a.val b.val := by decide +kernel
  exact h ⟨F, by omega⟩ ⟨U, by omega⟩
theorem flds_le (e : E) : E.flds e ≤ 7 := by unfold E.flds; (repeat' split) <;> omega
theorem uses_le (o : Int) : E.uses o ≤ 7 := by unfold E.uses; (repeat' split) <;> omega

set_option maxRecDepth 100000 in
set_option maxHeartbeats 1000000 in
theorem faults_yes (e : E) (w : World) (hin : E.In w w.heap.size e) (hn : e.nm.size ≤ 1000000) (hO : OpT w) (hS : SpT w) (ho : E.occ e.op = true) : Calls Tryz.prog 115 #[e.val] w fun r w' => r = .returned (.int .i64 (fx e : Nat)) ∧ Below w.heap.size w w' := by
  have HO := Lib.hid ho
  unfold E.occ at ho
  simp only [Bool.and_eq_true, decide_eq_true_eq] at ho
  obtain ⟨h0, h24⟩ := ho
  obtain ⟨s, l, a, b, c, hr⟩ := hO.row e.op.toNat (by omega)
  have c0 := hr.c0
  have c1 := hr.c1
  have c2 := hr.c2
  have c3 := hr.c3
  have c4 := hr.c4
  have c5 := hr.c5
  have c6 := hr.c6
  have hlt := hO.lt
  have e1 : ((e.op.toNat : Nat) : Int) = e.op := by omega
  rw [e1] at c0 c1
  obtain ⟨U, hU⟩ : ∃ U, Hid (E.uses e.op = U) := ⟨_, Lib.hid rfl⟩
  obtain ⟨K, hK⟩ : ∃ K, Hid (E.arity e.op = K) := ⟨_, Lib.hid rfl⟩
  rw [hU.out] at c0
  rw [hK.out] at c1
  obtain ⟨F, hF⟩ : ∃ F, Hid (E.flds e = F) := ⟨_, Lib.hid rfl⟩
  obtain ⟨sb, hsb⟩ : ∃ sb : Bool, Hid ((subI F U == 0) = sb) := ⟨_, Lib.hid rfl⟩
  have hsb2 : Hid (E.sub (E.flds e) (E.uses e.op) = sb) := Lib.hid (by rw [← hsb.out, subI_eq (by rw [← hF.out]; exact flds_le e) (by rw [← hU.out]; exact uses_le _), hF.out, hU.out])
  clear e1
  go_enter Tryz.func115, Tryz.ntmps115
  go_wp2_with fail
  refine (occurs_any _ _).mono ?_
  rintro r w1 ⟨rfl, rfl⟩
  rw [HO.out]
  go_upto_region 4 with (fail)
  have X := FxW.start w e U K s l a b c 44 193
  revert X
  generalize (w.alloc (.cells #[.int .i64 e.op, .int .i64 e.n, .string e.nm, .slice e.ad e.ks.length e.cap] 44)).alloc (.cells #[.int .i64 (U : Nat), .int .i64 (K : Nat), .string s, .int .i64 l, .int .i64 a, .int .i64 b, .int .i64 c] 193) = w1
  intro X
  clear c0 c1 c2 c3 c4 c5 c6 hr hlt
  obtain ⟨f1, hf1⟩ : ∃ f1 : Bool, Hid (f1 = (sb && (e.ks.length == K))) := ⟨_, Lib.hid rfl⟩
  go_cut [4] (fun s4 wx => s4 = .bool f1 ∧ FxW w wx e U K s l a b c)
  case first =>
    have k0 := cell_regrown (X.be.c 0 rfl)
    have k1 := cell_regrown (X.be.c 1 rfl)
    have k2 := cell_regrown (X.be.c 2 rfl)
    have k3 := cell_regrown (X.be.c 3 rfl)
    have m0 := cell_regrown (X.bo.c 0 rfl)
    have m1 := cell_regrown (X.bo.c 1 rfl)
    have q1 : ∀ d os, Calls Tryz.prog 134 #[e.val] (grow (redrawn w1 d) os) fun r w'' => r = .returned (.int .i64 (F : Nat)) ∧ ∃ p : Regrown, w'' = grow (redrawn w1 p.d) p.os :=
      fun d os => Calls.regrown_of (by rw [← hF.out]; exact fields_any e _)
    have Q1 := Lib.hid q1
    clear q1
    cases sb with
    | false =>
      have hs := hsb.out
      unfold subI at hs
      refine wp_region_quiet_below (by kernel_rfl) (by kernel_rfl) ?_
      repeat (quiet_step ((go_at_call 134; exact Q1.out _ _)))
      refine wpQuiet_nil ?_
      intro _ hw'
      obtain ⟨⟨dq, osq⟩, hw''⟩ := hw'
      subst hw''
      go_wp2_with fail
      go_meet
      exact ⟨by rw [hf1.out]; rfl, X.below (below_regrown w1 dq osq)⟩
    | true =>
      have hs := hsb.out
      unfold subI at hs
      obtain ⟨kb, hkb⟩ : ∃ kb : Bool, Hid ((e.ks.length == K) = kb) := ⟨_, Lib.hid rfl⟩
      have hk := hkb.out
      have HKI : Hid ((((e.ks.length : Nat) : Int) == ((K : Nat) : Int)) = (true && kb)) := Lib.hid (by rw [← hkb.out, Bool.true_and, Bool.eq_iff_iff]; simp; omega)
      refine wp_region_quiet_below (by kernel_rfl) (by kernel_rfl) ?_
      repeat (quiet_step ((go_at_call 134; exact Q1.out _ _)))
      refine wpQuiet_nil ?_
      intro _ hw'
      obtain ⟨⟨dq, osq⟩, hw''⟩ := hw'
      subst hw''
      go_wp2_with fail
      go_meet
      exact ⟨by rw [hf1.out, hkb.out, HKI.out], X.below (below_regrown w1 dq osq)⟩
  case rest =>
    obtain ⟨rfl, X⟩ := hcut
    clear hsb hF
    have hfm : Hid (E.form e = (f1 && (decide (e.op ≠ 4 ∧ e.op ≠ 5) || E.hd e.ks))) := Lib.hid (by
      unfold E.form
      rw [hsb2.out, hK.out, hf1.out]
      congr 2)
    have hkl : Hid (f1 = true → e.op = 4 ∨ e.op = 5 → ∃ k l, e.ks = k :: l) := Lib.hid (by
      intro h1 h2
      rw [hf1.out, Bool.and_eq_true, beq_iff_eq, ← hK.out] at h1
      have : E.arity e.op ≠ 0 := by rcases h2 with h | h <;> rw [h] <;> decide
      cases hk : e.ks with
      | nil => rw [hk] at h1; exact absurd h1.2.symm this
      | cons k l => exact ⟨k, l, rfl⟩)
    clear hsb2 hf1
    go_upto_region 5 with (fail)
    obtain ⟨fm, hfmv⟩ : ∃ fm, Hid (E.form e = fm) := ⟨_, Lib.hid rfl⟩
    go_cut [4] (fun s4 wx => s4 = .bool fm ∧ FxW w wx e U K s l a b c)
    case first =>
      have x0 := X.be.c 0 rfl
      have x3 := X.be.c 3 rfl
      cases f1 with
      | false =>
        have HR : Hid (Value.bool false = Value.bool fm) := Lib.hid (by rw [← hfmv.out, hfm.out]; rfl)
        go_wp2_with fail
        go_meet
        exact ⟨HR.out, X⟩
      | true =>
        by_cases h4 : e.op = 4 ∨ e.op = 5
        · obtain ⟨kk, ll, hkk⟩ := hkl.out rfl h4
          have hlen : 0 < e.ks.length := by rw [hkk]; simp
          obtain ⟨ab, off, e', hA, hab, d0, d1, d2, d3, his, _⟩ := (hin.l.below X.bel).at_ hlen
          simp only [Nat.zero_mul, Nat.add_zero] at d0 d1 d2 d3
          have hh : E.hd e.ks = e'.place := hd_is his
          have HR : Hid (Value.bool e'.place = Value.bool fm) := Lib.hid (by
            have : decide (e.op ≠ 4 ∧ e.op ≠ 5) = false := decide_eq_false (by omega)
            rw [← hfmv.out, hfm.out, hh, this]; rfl)
          have hq : (e.op != 4 && e.op != 5) = false := by
            rcases h4 with h | h <;> rw [h] <;> rfl
          clear hkk hh his hkl hfm
          by_cases h44 : e.op = 4
          · have hq4 : (e.op != 4) = false := by rw [h44]; rfl
            clear h4 h44 hq h0 h24
            go_wp2_with fail
            refine (isplace_any e' _).mono ?_
            rintro r w2 ⟨rfl, b2⟩
            go_wp2_with fail
            go_meet
            exact ⟨HR.out, X.below b2⟩
          · have hq4 : (e.op != 4) = true := by simpa using h44
            have hq5 : (e.op != 5) = false := by
              have : e.op = 5 := by omega
              rw [this]; rfl
            clear h4 h44 hq h0 h24
            go_wp2_with fail
            refine (isplace_any e' _).mono ?_
            rintro r w2 ⟨rfl, b2⟩
            go_wp2_with fail
            go_meet
            exact ⟨HR.out, X.below b2⟩
        · have hq4 : (e.op != 4) = true := by simp; omega
          have hq5 : (e.op != 5) = true := by simp; omega
          have HR : Hid (Value.bool true = Value.bool fm) := Lib.hid (by
            have : decide (e.op ≠ 4 ∧ e.op ≠ 5) = true := decide_eq_true (by omega)
            rw [← hfmv.out, hfm.out, this]; rfl)
          clear h4 hkl hfm h0 h24
          go_wp2_with fail
          go_meet
          exact ⟨HR.out, X⟩
    case rest =>
      obtain ⟨rfl, X⟩ := hcut
      clear hkl hfm
      have hO2 := hO.at X.bel
      have hS2 := hS.below' X.bel hS.lt
      have hsz : w.heap.size + 1 < wc.heap.size := X.bo.lt
      obtain ⟨nb, hnb⟩ : ∃ nb : Bool, Hid ((bits BinOp.and IntKind.i64 (U : Int) 2 != 0) = nb) := ⟨_, Lib.hid rfl⟩
      obtain ⟨zb, hzb⟩ : ∃ zb : Bool, Hid ((e.op == 0) = zb) := ⟨_, Lib.hid rfl⟩
      have hnb2 : Hid ((e.op == 3 || e.op == 4) = nb) := Lib.hid (by
        rw [← hnb.out, ← hU.out]
        unfold E.uses
        by_cases o0 : e.op = 0
        · rw [o0]; rfl
        by_cases o12 : e.op = 1 ∨ e.op = 2
        · rw [if_neg o0, if_pos o12]; rcases o12 with h | h <;> rw [h] <;> rfl
        by_cases o3 : e.op = 3
        · rw [o3]; rfl
        by_cases o4 : e.op = 4
        · rw [o4]; rfl
        rw [if_neg o0, if_neg o12, if_neg o3, if_neg o4]
        have a1 : (e.op == 3) = false := by simpa using o3
        have a2 : (e.op == 4) = false := by simpa using o4
        rw [a1, a2]; rfl)
      obtain ⟨nn, hnn⟩ : ∃ nn : Bool, Hid (Kx.nameB (bs e.nm) = nn) := ⟨_, Lib.hid rfl⟩
      obtain ⟨wb, hwb⟩ : ∃ wb : Bool, Hid (withB e.n 0 1048576 = wb) := ⟨_, Lib.hid rfl⟩
      have HR : Hid (bits BinOp.or IntKind.i64 (bits BinOp.or IntKind.i64 (ifB (!fm) 1) (ifB (nb && !nn) 2)) (ifB (zb && !wb) 4) = ((fx e : Nat) : Int)) := Lib.hid (by
        rw [fx_bits]
        unfold fx E.mal E.mis E.out
        have h1 : (decide (0 ≤ e.n) && decide (e.n ≤ 1048576)) = wb := hwb.out
        rw [HO.out, hfmv.out, hnb2.out, hzb.out, h1]
        dsimp only
        rw [hnn.out]; rfl)
      have k0 := cell_regrown (X.be.c 0 rfl)
      have k1 := cell_regrown (X.be.c 1 rfl)
      have k2 := cell_regrown (X.be.c 2 rfl)
      have m0 := cell_regrown (X.bo.c 0 rfl)
      have Q1 := Lib.hid (fun (b : Bool) (f : Int) d os => qreg (w := wc) (d := d) (os := os) (when_any b f _))
      have Q2 := Lib.hid (fun d os => qreg (w := wc) (d := d) (os := os) (within_any e.n 0 1048576 _))
      rw [hwb.out] at Q2
      have q3 : ∀ d os, Calls Tryz.prog 127 #[.string e.nm] (grow (redrawn wc d) os) fun r w'' => r = .returned (.bool nn) ∧ ∃ p : Regrown, w'' = grow (redrawn wc p.d) p.os :=
        fun d os => Calls.regrown_of (by rw [← hnn.out]; exact sisname_any e.nm hn _ (hS2.below' (below_regrown wc d os) (Nat.lt_of_lt_of_le hS.lt X.bel.size)))
      have Q3 := Lib.hid q3
      clear q3 hO2 hS2 hO hS h0 h24
      have hn1 := hnb.out
      have hz1 := hzb.out
      cases nb <;> cases zb
      all_goals
        go_upto_region 6 with (fail)
        refine wp_region_quiet_below (by kernel_rfl) (by kernel_rfl) ?_
        repeat (quiet_step (first | (go_at_call 126; exact Q1.out _ _ _ _) | (go_at_call 125; exact Q2.out _ _) | (go_at_call 127; exact Q3.out _ _)))
        refine wpQuiet_nil ?_
        intro _ hw'
        obtain ⟨⟨dq, osq⟩, hw''⟩ := hw'
        subst hw''
        go_wp2_with fail
        go_ret
        exact ⟨ret_int HR.out, bTrans X.bel (below_regrown wc dq osq)⟩
end Go.Proofs.YtmemkcaikajnnaaGreatDoor
