/- Walks: Equal of package types. -/
import Derived.Test.YtlpnbcdnlbghdaaGreatDoorRp
import Derived.Test.YtlpnbcdnlbghdaaGreatDoorDe
import Derived.Deep.DeepCutAuto
import Derived.Deep.RegionWith
namespace Go.Proofs.YtlpnbcdnlbghdaaGreatDoor
open Go.RowKit Go.Sort
set_option linter.unusedVariables false

/-- the names of two types are the same -/
def nsB (l l' : List ByteArray) : Bool := decide (l = l')
theorem nsB_bad {l l' : List ByteArray} {i : Nat} (h : i < l.length) (h' : i < l'.length) (hn : l[i] ≠ l'[i]) : nsB l l' = false := by
  unfold nsB
  rw [decide_eq_false_iff_not]
  rintro rfl
  exact hn rfl
theorem nsB_good {l l' : List ByteArray} (hl : l.length = l'.length) (h : ∀ i, i < l.length → ∀ (h1 : i < l.length) (h2 : i < l'.length), l[i] = l'[i]) : nsB l l' = true := by
  unfold nsB
  rw [decide_eq_true_eq]
  exact List.ext_getElem hl fun i h1 h2 => h i h1 h1 h2
theorem str_eq {s t : ByteArray} : (s.toList == t.toList) = decide (s = t) := by
  rw [bs_toList, bs_toList, Bool.eq_iff_iff, beq_iff_eq, decide_eq_true_eq]
  exact ⟨bs_inj, fun h => by rw [h]⟩
theorem str_ne {s t : ByteArray} : (s.toList != t.toList) = decide (s ≠ t) := by
  unfold bne; rw [str_eq]; simp
set_option maxRecDepth 100000 in
set_option maxHeartbeats 1000000 in
theorem sequal_any (e f : G) (w : World) (he : G.Nd w w.heap.size e) (hf : G.Nd w w.heap.size f) :
    Calls Tryz.prog 44 #[.slice e.na e.ns.length e.nc, .slice f.na f.ns.length f.nc] w fun r w' => r = .returned (.bool (nsB e.ns f.ns)) ∧ Below w.heap.size w w' := by
  have hl1 := he.nlen
  have hl2 := hf.nlen
  obtain ⟨A, hA⟩ : ∃ A, Hid (e.na = A) := ⟨_, Lib.hid rfl⟩
  obtain ⟨A', hA'⟩ : ∃ A', Hid (f.na = A') := ⟨_, Lib.hid rfl⟩
  rw [hA.out, hA'.out]
  by_cases hl : e.ns.length = f.ns.length
  · have hlI : (((e.ns.length : Nat) : Int) != ((f.ns.length : Nat) : Int)) = false := by rw [hl]; simp
    have HL := Lib.hid hl
    have X : Below w.heap.size w w := Below.refl _ _
    obtain ⟨n, hn⟩ : ∃ n, Hid (e.ns.length = n) := ⟨_, Lib.hid rfl⟩
    have hn' : Hid (f.ns.length = n) := Lib.hid (by rw [← hn.out, hl])
    rw [hn.out] at hl1
    rw [hn'.out] at hl2
    rw [hn.out, hn'.out]
    clear hlI hl
    go_enter Tryz.func44, Tryz.ntmps44
    go_wp2_with fail
    go_loopw [13] (fun iv wr => ∃ i : Nat, i ≤ n ∧ iv = .int .i64 i ∧ Hid (∀ k, k < i → ∀ (h1 : k < e.ns.length) (h2 : k < f.ns.length), e.ns[k] = f.ns[k]) ∧ Below w.heap.size w wr) (fun iv _ => n - (intOf iv).toNat)
    case atStart => exact ⟨0, Nat.zero_le _, rfl, Lib.hid (fun k hk => absurd hk (Nat.not_lt_zero _)), X⟩
    case round =>
      clear X
      obtain ⟨i, hi, rfl, hg, Y⟩ := hrel
      by_cases hlt : i < n
      · have h1 : i < e.ns.length := by rw [hn.out]; exact hlt
        have h2 : i < f.ns.length := by rw [hn'.out]; exact hlt
        obtain ⟨ab, off, hA2, hab, hc⟩ := (he.below Y).name_at h1
        obtain rfl : A = some ⟨ab, off, none⟩ := hA.out.symm.trans hA2
        obtain ⟨ab', off', hA3, hab', hc'⟩ := (hf.below Y).name_at h2
        obtain rfl : A' = some ⟨ab', off', none⟩ := hA'.out.symm.trans hA3
        have HB := Lib.hid (fun (h : e.ns[i] ≠ f.ns[i]) => nsB_bad h1 h2 h)
        have HG := Lib.hid (fun (h : e.ns[i] = f.ns[i]) k (hk : k < i + 1) (h1 : k < e.ns.length) (h2 : k < f.ns.length) => show e.ns[k] = f.ns[k] by
          by_cases hki : k = i
          · subst hki; exact h
          · exact hg.out k (by omega) h1 h2)
        clear hA2 hA3 hg
        revert hc hc' HB HG
        generalize e.ns[i] = s
        generalize f.ns[i] = t
        intro hc hc' HB HG
        clear h1 h2
        have hst := str_eq (s := s) (t := t)
        by_cases hs : s = t
        · have HG2 := Lib.hid (HG.out hs)
          rw [decide_eq_true hs] at hst
          clear hs HB HG
          go_wp2_with fail
          go_quiet (fail)
          go_wp2_with fail
          go_roundw
          case rel => exact ⟨i + 1, by omega, by go_num, HG2, bDrew Y _⟩
          case measure => simp [intOf]; omega
        · have HR := Lib.hid (HB.out hs)
          rw [decide_eq_false hs] at hst
          clear hs HB HG
          go_wp2_with fail
          go_quiet (fail)
          go_wp2_with fail
          go_ret
          exact ⟨ret_bool HR.out.symm, bDrew Y _⟩
      · obtain rfl : i = n := by omega
        have HR : Hid (nsB e.ns f.ns = true) := Lib.hid (nsB_good HL.out fun k hk h1 h2 => hg.out k (by rw [← hn.out]; exact hk) h1 h2)
        go_wp2_with fail
        go_ret
        exact ⟨ret_bool HR.out.symm, Y⟩
  · have hlI : (((e.ns.length : Nat) : Int) != ((f.ns.length : Nat) : Int)) = true := by simp; omega
    have HR : Hid (nsB e.ns f.ns = false) := Lib.hid (by unfold nsB; rw [decide_eq_false_iff_not]; intro h; exact hl (by rw [h]))
    clear hl
    go_enter Tryz.func44, Tryz.ntmps44
    go_wp2_with fail
    go_ret
    exact ⟨ret_bool HR.out.symm, Below.refl _ _⟩
/-- the contract of Equal -/
def EqE (e : G) : Prop := ∀ (f : G) (w : World), G.In w w.heap.size e → G.In w w.heap.size f → Calls Tryz.prog 14 #[e.val, f.val] w fun r w' => r = .returned (.bool (G.eqB e f)) ∧ Below w.heap.size w w'
set_option maxRecDepth 100000 in
set_option maxHeartbeats 1000000 in
theorem eqfunc_any (l l' : List G) (ih : ∀ k ∈ l, EqE k) (A A' : Option Addr) (c c' : Nat) (w : World) (h1 : G.L w w.heap.size A l) (h2 : G.L w w.heap.size A' l') :
    Calls Tryz.prog 45 #[.slice A l.length c, .slice A' l'.length c', .func (.func 14) #[] #[]] w fun r w' => r = .returned (.bool (G.eqL l l')) ∧ Below w.heap.size w w' := by
  have hl1 := h1.len
  have hl2 := h2.len
  have IH := Lib.hid ih
  clear ih
  by_cases hl : l.length = l'.length
  · have HL := Lib.hid hl
    have X : Below w.heap.size w w := Below.refl _ _
    obtain ⟨n, hn⟩ : ∃ n, Hid (l.length = n) := ⟨_, Lib.hid rfl⟩
    have hn' : Hid (l'.length = n) := Lib.hid (by rw [← hn.out, hl])
    rw [hn.out] at hl1
    rw [hn'.out] at hl2
    rw [hn.out, hn'.out]
    clear hl
    go_enter Tryz.func45, Tryz.ntmps45
    go_wp2_with fail
    go_loopw [17] (fun iv wr => ∃ i : Nat, i ≤ n ∧ iv = .int .i64 i ∧ Hid (∀ k, k < i → ∀ a, G.Is l k a → ∀ b, G.Is l' k b → G.eqB a b = true) ∧ Below w.heap.size w wr) (fun iv _ => n - (intOf iv).toNat)
    case atStart => exact ⟨0, Nat.zero_le _, rfl, Lib.hid (fun k hk => absurd hk (Nat.not_lt_zero _)), X⟩
    case round =>
      clear X
      obtain ⟨i, hi, rfl, hg, Y⟩ := hrel
      by_cases hlt : i < n
      · obtain ⟨ab, off, k, rfl, hab, ⟨d0, d1, d2, d3, d4, d5, d6⟩, his, hkin⟩ := (h1.below Y).at_ (show i < l.length by rw [hn.out]; exact hlt)
        obtain ⟨ab', off', k', rfl, hab', ⟨e0, e1, e2, e3, e4, e5, e6⟩, his', hkin'⟩ := (h2.below Y).at_ (show i < l'.length by rw [hn'.out]; exact hlt)
        have Yb := Y.alloc Y.size (.cells k.box 26)
        have Yc := Yb.alloc Yb.size (.cells k'.box 26)
        have B2 : Below wr.heap.size wr ((wr.alloc (.cells k.box 26)).alloc (.cells k'.box 26)) := (al1 _ _).alloc (by simp) _
        have HC := Lib.hid (show EqE k from IH.out k his.mem)
        have hk2 := (hkin.more Y.size).at B2
        have hk3 := (hkin'.more Y.size).at B2
        clear hkin hkin' B2 Yb
        replace e0 := (al1 wr (.cells k.box 26)).cell (p := ⟨ab', off' + i * 7, none⟩) (by show ab' < _; have := Y.size; omega) |>.trans e0
        replace e1 := (al1 wr (.cells k.box 26)).cell (p := ⟨ab', off' + i * 7 + 1, none⟩) (by show ab' < _; have := Y.size; omega) |>.trans e1
        replace e2 := (al1 wr (.cells k.box 26)).cell (p := ⟨ab', off' + i * 7 + 2, none⟩) (by show ab' < _; have := Y.size; omega) |>.trans e2
        replace e3 := (al1 wr (.cells k.box 26)).cell (p := ⟨ab', off' + i * 7 + 3, none⟩) (by show ab' < _; have := Y.size; omega) |>.trans e3
        replace e4 := (al1 wr (.cells k.box 26)).cell (p := ⟨ab', off' + i * 7 + 4, none⟩) (by show ab' < _; have := Y.size; omega) |>.trans e4
        replace e5 := (al1 wr (.cells k.box 26)).cell (p := ⟨ab', off' + i * 7 + 5, none⟩) (by show ab' < _; have := Y.size; omega) |>.trans e5
        replace e6 := (al1 wr (.cells k.box 26)).cell (p := ⟨ab', off' + i * 7 + 6, none⟩) (by show ab' < _; have := Y.size; omega) |>.trans e6
        cases hq : G.eqB k k' with
        | false =>
          have HR : Hid (G.eqL l l' = false) := Lib.hid (G.eqL_bad his his' hq)
          have HQ := Lib.hid hq
          clear hq hg
          go_wp2_with fail
          refine (HC.out k' _ hk2 hk3).mono ?_
          rintro r w2 ⟨rfl, b2⟩
          rw [HQ.out]
          have b3 := bTrans Yc b2
          go_wp2_with fail
          go_ret
          exact ⟨ret_bool HR.out.symm, b3⟩
        | true =>
          have HG := Lib.hid (G.eqL_next hg.out his his' hq)
          have HQ := Lib.hid hq
          clear hq hg
          go_wp2_with fail
          refine (HC.out k' _ hk2 hk3).mono ?_
          rintro r w2 ⟨rfl, b2⟩
          rw [HQ.out]
          have b3 := bTrans Yc b2
          go_wp2_with fail
          go_roundw
          case rel => exact ⟨i + 1, by omega, by go_num, HG, b3⟩
          case measure => simp [intOf]; omega
      · obtain rfl : i = n := by omega
        have HR : Hid (G.eqL l l' = true) := Lib.hid (G.eqL_good HL.out fun k hk => hg.out k (by rw [← hn.out]; exact hk))
        go_wp2_with fail
        go_ret
        exact ⟨ret_bool HR.out.symm, Y⟩
  · have hlI : (((l.length : Nat) : Int) != ((l'.length : Nat) : Int)) = true := by simp; omega
    have HR : Hid (G.eqL l l' = false) := Lib.hid (by rw [Bool.eq_false_iff]; intro h; exact hl (G.eqL_len h))
    clear hl
    go_enter Tryz.func45, Tryz.ntmps45
    go_wp2_with fail
    go_ret
    exact ⟨ret_bool HR.out.symm, Below.refl _ _⟩
/-- the boxes of Equal -/
structure QW (w wr : World) (e f : G) : Prop where
  be : Blk wr w.heap.size e.box
  bf : Blk wr (w.heap.size + 1) f.box
  bel : Below w.heap.size w wr
theorem QW.start (w : World) (e f : G) (T T' : TypeId) : QW w ((w.alloc (.cells e.box T)).alloc (.cells f.box T')) e f :=
  ⟨(Blk.new_ _ _ _).alloc _, by
    have := Blk.new_ (w.alloc (.cells e.box T)) f.box T'
    rwa [World.size_alloc] at this, (al1 w _).alloc (by simp) _⟩
theorem QW.below {w wr w' : World} {e f : G} (h : QW w wr e f) (hb : Below wr.heap.size wr w') : QW w w' e f := ⟨h.be.below hb h.be.lt, h.bf.below hb h.bf.lt, bTrans h.bel hb⟩
set_option maxRecDepth 100000 in
set_option maxHeartbeats 2000000 in
theorem tequal_any (e : G) : EqE e := by
  induction e using G.ind with
  | h e ih =>
  intro f w he hf
  have X := QW.start w e f 26 26
  have C1 := Lib.hid (fun W (i : QW w W e f) => sequal_any e f W (he.at i.bel).nd (hf.at i.bel).nd)
  have C2 := Lib.hid (fun W (i : QW w W e f) => eqfunc_any e.ks f.ks ih e.ad f.ad e.cap f.cap W (he.at i.bel).l (hf.at i.bel).l)
  have HE := Lib.hid (G.eqB_eq e f)
  clear ih
  have hst := str_eq (s := e.nm) (t := f.nm)
  obtain ⟨z, hz⟩ : ∃ z, Hid (G.eqB e f = z) := ⟨_, Lib.hid rfl⟩
  rw [hz.out] at HE ⊢
  clear hz
  go_enter Tryz.func14, Tryz.ntmps14
  go_upto_region 1 with (fail)
  revert X
  generalize (w.alloc (.cells #[.int .i64 e.kd, .int .i64 e.lo, .int .i64 e.hi, .int .i64 e.sz, .string e.nm, .slice e.na e.ns.length e.nc, .slice e.ad e.ks.length e.cap] 26)).alloc (.cells #[.int .i64 f.kd, .int .i64 f.lo, .int .i64 f.hi, .int .i64 f.sz, .string f.nm, .slice f.na f.ns.length f.nc, .slice f.ad f.ks.length f.cap] 26) = w1
  intro X
  have k0 := X.be.c 0 (show e.box[0]? = some (.int .i64 e.kd) from rfl)
  have k1 := X.be.c 1 (show e.box[1]? = some (.int .i64 e.lo) from rfl)
  have k2 := X.be.c 2 (show e.box[2]? = some (.int .i64 e.hi) from rfl)
  have k3 := X.be.c 3 (show e.box[3]? = some (.int .i64 e.sz) from rfl)
  have k4 := X.be.c 4 (show e.box[4]? = some (.string e.nm) from rfl)
  have k5 := X.be.c 5 (show e.box[5]? = some (.slice e.na e.ns.length e.nc) from rfl)
  have m0 := X.bf.c 0 (show f.box[0]? = some (.int .i64 f.kd) from rfl)
  have m1 := X.bf.c 1 (show f.box[1]? = some (.int .i64 f.lo) from rfl)
  have m2 := X.bf.c 2 (show f.box[2]? = some (.int .i64 f.hi) from rfl)
  have m3 := X.bf.c 3 (show f.box[3]? = some (.int .i64 f.sz) from rfl)
  have m4 := X.bf.c 4 (show f.box[4]? = some (.string f.nm) from rfl)
  have m5 := X.bf.c 5 (show f.box[5]? = some (.slice f.na f.ns.length f.nc) from rfl)
  have b1 := X.bel
  by_cases g0 : e.kd = f.kd
  case neg =>
    have q0 : (e.kd == f.kd) = false := by simpa using g0
    have HR : Hid (false = z) := Lib.hid (by rw [HE.out, q0]; rfl)
    clear HE g0
    go_wp2_with fail
    go_ret
    exact ⟨ret_bool HR.out, b1⟩
  have q0 : (e.kd == f.kd) = true := by simpa using g0
  by_cases g1 : e.lo = f.lo
  case neg =>
    have q1 : (e.lo == f.lo) = false := by simpa using g1
    have HR : Hid (false = z) := Lib.hid (by rw [HE.out, q0, q1]; rfl)
    clear HE g0 g1
    go_wp2_with fail
    go_ret
    exact ⟨ret_bool HR.out, b1⟩
  have q1 : (e.lo == f.lo) = true := by simpa using g1
  by_cases g2 : e.hi = f.hi
  case neg =>
    have q2 : (e.hi == f.hi) = false := by simpa using g2
    have HR : Hid (false = z) := Lib.hid (by rw [HE.out, q0, q1, q2]; rfl)
    clear HE g0 g1 g2
    go_wp2_with fail
    go_ret
    exact ⟨ret_bool HR.out, b1⟩
  have q2 : (e.hi == f.hi) = true := by simpa using g2
  by_cases g3 : e.sz = f.sz
  case neg =>
    have q3 : (e.sz == f.sz) = false := by simpa using g3
    have HR : Hid (false = z) := Lib.hid (by rw [HE.out, q0, q1, q2, q3]; rfl)
    clear HE g0 g1 g2 g3
    go_wp2_with fail
    go_ret
    exact ⟨ret_bool HR.out, b1⟩
  have q3 : (e.sz == f.sz) = true := by simpa using g3
  by_cases g4 : e.nm = f.nm
  case neg =>
    have HR : Hid (false = z) := Lib.hid (by rw [HE.out, q0, q1, q2, q3, decide_eq_false g4]; rfl)
    rw [decide_eq_false g4] at hst
    clear HE g0 g1 g2 g3 g4
    go_wp2_with fail
    go_ret
    exact ⟨ret_bool HR.out, b1⟩
  rw [decide_eq_true g4] at hst
  have HE2 : Hid (z = (nsB e.ns f.ns && G.eqL e.ks f.ks)) := Lib.hid (by rw [HE.out, q0, q1, q2, q3, decide_eq_true g4]; rfl)
  clear HE g0 g1 g2 g3 g4
  go_wp2_with fail
  refine (C1.out _ X).mono ?_
  rintro r w2 ⟨rfl, b2⟩
  replace X := X.below b2
  have k6 := X.be.c 6 (show e.box[6]? = some (.slice e.ad e.ks.length e.cap) from rfl)
  have m6 := X.bf.c 6 (show f.box[6]? = some (.slice f.ad f.ks.length f.cap) from rfl)
  replace b1 := X.bel
  cases hn : nsB e.ns f.ns with
  | false =>
    have HR : Hid (false = z) := Lib.hid (by rw [HE2.out, hn]; rfl)
    clear HE2 hn
    go_wp2_with fail
    go_ret
    exact ⟨ret_bool HR.out, b1⟩
  | true =>
    have HR : Hid (G.eqL e.ks f.ks = z) := Lib.hid (by rw [HE2.out, hn]; rfl)
    clear HE2 hn
    go_wp2_with fail
    refine (C2.out _ X).mono ?_
    rintro r w3 ⟨rfl, b3⟩
    have b4 := bTrans b1 b3
    go_wp2_with fail
    go_ret
    exact ⟨ret_bool HR.out, b4⟩
end Go.Proofs.YtlpnbcdnlbghdaaGreatDoor
