/- Plain: the components of a valid type have good names. Of no program. -/
import Derived.Test.YtlifnabeilnblaaGreatDoorFd
import Derived.Test.YtlifnabeilnblaaGreatDoorEp
import Derived.Test.YtlifnabeilnblaaGreatDoorCm
import Derived.Test.YtlifnabeilnblaaGreatDoorFp
import Derived.Test.YtlifnabeilnblaaGreatDoorRn
namespace Go.Proofs.YtlifnabeilnblaaGreatDoor
open Go.RowKit Go.Sort
set_option linter.unusedVariables false

theorem nmB_dot {s : ByteArray} (h : nmB s = true) : ∀ b ∈ bs s, b ≠ 46 := by
  unfold nmB Kx.nameB at h
  cases hb : bs s with
  | nil => intro b hb; cases hb
  | cons c r =>
    rw [hb] at h
    simp only [Bool.and_eq_true] at h
    have h1 : (c :: r).takeWhile Kx.alC = c :: r := by simpa using h.1.1.2
    have h2 : ((c :: r).takeWhile Kx.alC).all Kx.alC = true := List.all_takeWhile
    rw [h1, List.all_eq_true] at h2
    rintro b hm rfl
    have := h2 _ hm
    revert this
    decide
theorem num_dot : ∀ i : Fin 33, ∀ b ∈ bs (num i.1), b ≠ 46 := by decide +kernel
theorem num_nodup : ∀ n : Fin 33, ((List.range n.1).map fun i => bs (num i)).Nodup := by decide +kernel
namespace G
theorem good_of (e : G) : e.any mal = false → e.any (mis nmB) = false → e.any out = false → e.any twins = false → Good e := by
  induction e using G.ind with
  | h e ih =>
    intro h1 h2 h3 h4
    have f := (mal_iff e).1 (any_self h1)
    have ho := any_self h3
    unfold out inr at ho
    rw [Bool.not_eq_false', Bool.and_eq_true, Bool.and_eq_true] at ho
    refine .mk e ?_ (fun c hc => ih c.2 (comp_mem hc) (any_kid h1 (comp_mem hc)) (any_kid h2 (comp_mem hc)) (any_kid h3 (comp_mem hc)) (any_kid h4 (comp_mem hc)))
    unfold comps
    by_cases k2 : e.kd = 2
    · rw [if_pos k2]
      have hs := ho.1.2
      rw [k2] at hs
      simp at hs
      unfold comps2
      cases hks : e.ks with
      | nil => exact ⟨fun c hc => absurd hc (by simp), by simp⟩
      | cons a l =>
        obtain ⟨n, hn⟩ : ∃ n : Nat, e.sz.toNat = n := ⟨_, rfl⟩
        have hn1 : n < 33 := by omega
        simp only [hn]
        refine ⟨fun c hc => ?_, ?_⟩
        · obtain ⟨i, hi, rfl⟩ := List.mem_map.1 hc
          rw [List.mem_range] at hi
          exact num_dot ⟨i, by omega⟩
        · rw [List.map_map]
          exact num_nodup ⟨n, hn1⟩
    · rw [if_neg k2]
      by_cases k3 : e.kd = 3
      · rw [if_pos k3]
        have hm := any_self h2
        unfold mis named at hm
        rw [k3] at hm
        simp at hm
        have hd := any_self h4
        unfold twins at hd
        simp at hd
        have hl := (f.rc k3).2
        refine ⟨fun c hc => nmB_dot (hm c.1 (List.of_mem_zip hc).1), ?_⟩
        have hz : ((e.ns.zip e.ks).map fun c => bs c.1) = e.ns.map bs := by
          have := List.map_fst_zip (l₁ := e.ns) (l₂ := e.ks) (by omega)
          calc ((e.ns.zip e.ks).map fun c => bs c.1) = ((e.ns.zip e.ks).map Prod.fst).map bs := by rw [List.map_map]; rfl
            _ = _ := by rw [this]
        rw [hz]
        unfold List.Nodup
        rw [List.pairwise_map]
        exact hd.imp fun hne heq => hne (bs_inj heq)
      · rw [if_neg k3]
        exact ⟨fun c hc => absurd hc (by simp), by simp⟩
theorem good_chk {e : G} (h : chkT nmB e = 0) : Good e := by
  have v := Vd.of_chkT h
  exact good_of e v.mal v.mis v.out v.twn
end G
end Go.Proofs.YtlifnabeilnblaaGreatDoor
/- Walks: find of the reference of types. -/
namespace Go.Proofs.YtlifnabeilnblaaGreatDoor
open Go.RowKit Go.Sort
set_option linter.unusedVariables false

theorem res_box {w : World} {tmps : Array Value} {b : Nat} {e : G} {v1 v2 : Value} (hc : tmps[8]? = some (.pointer (some ⟨b, 0, none⟩))) (h1 : tmps[9]? = some v1) (h2 : tmps[10]? = some v2)
    (r0 : w.cell? ⟨b, 0, none⟩ = some (.int .i64 e.kd)) (r1 : w.cell? ⟨b, 1, none⟩ = some (.int .i64 e.lo)) (r2 : w.cell? ⟨b, 2, none⟩ = some (.int .i64 e.hi)) (r3 : w.cell? ⟨b, 3, none⟩ = some (.int .i64 e.sz)) (r4 : w.cell? ⟨b, 4, none⟩ = some (.string e.nm)) (r5 : w.cell? ⟨b, 5, none⟩ = some (.slice e.na e.ns.length e.nc)) (r6 : w.cell? ⟨b, 6, none⟩ = some (.slice e.ad e.ks.length e.cap)) :
    (results Tryz.f25 tmps).run Tryz.prog w = .ok (.tuple #[e.val, v1, v2]) w := by
  simp [results, Tryz.results25, go_sem, hc, h1, h2, r0, r1, r2, r3, r4, r5, r6]
theorem fty_some (e : G) (i : Int) : fty (some (e, i)) = e.bare := rfl
theorem fty_none : fty none = G.zero := rfl
/-- what the reference's search leaves: a part of its argument -/
def RfP (B : Nat) (o : Option (G × Int)) (w : World) (r : Ending) (w' : World) : Prop :=
  ∃ (x : G) (j : Int), r = .returned (.tuple #[x.val, .int .i64 j, .bool o.isSome]) ∧ x.bare = fty o ∧ (∀ q, o = some q → j = q.2) ∧ G.In w' B x ∧ Below w.heap.size w w'
theorem rf_eq {path : ByteArray} (n : Nat) (e : G) (a : ByteArray) (i : Int) (hd : e.dep ≤ n + 1) : G.rf path n e a i = if a = path then some (e, i) else G.rfL (fun k a j => G.rf path (n - 1) k a j) a (G.comps e) i := by
  cases n with
  | zero =>
    have hcs : G.comps e = [] := by
      cases hc : G.comps e with
      | nil => rfl
      | cons c l =>
        have h1 := G.comp_dep (e := e) (c := c) (by rw [hc]; simp)
        have := G.dep_one c.2
        omega
    rw [hcs, G.rf]; rfl
  | succ n => rw [G.rf]; rfl
theorem rfL_drop {f : G → ByteArray → Int → Option (G × Int)} {a : ByteArray} {l : List (ByteArray × G)} {i : Nat} {c : ByteArray × G} (h : l[i]? = some c) (j : Int) : G.rfL f a (l.drop i) j = match f c.2 (jn a c.1) j with | some r => some r | none => G.rfL f a (l.drop (i + 1)) (j + c.2.cnt) := by
  obtain ⟨hi, rfl⟩ := List.getElem?_eq_some_iff.1 h
  rw [List.drop_eq_getElem_cons hi]; rfl
theorem pt7_lo {w3 : World} {b B : Nat} {x : G} (hx : G.In w3 B x) (hb : B ≤ b) (hz : B ≤ w3.heap.size) : G.In (pt7 w3 b x) B x :=
  hx.below ((Below.refl B w3).grown (pt7_grown w3 b x) hz (fun k e => by cases e; exact hb))
/-- the contract of the reference's search -/
def RfE (e : G) : Prop := ∀ (n : Nat) (a path : ByteArray) (i : Int) (B : Nat) (w : World), B ≤ w.heap.size → G.In w B e → Vl e → e.nodes ≤ 1000000 → e.dep ≤ n + 1 → a.size + 13 * e.dep ≤ 1000 → 0 ≤ i → i + 2000 * (e.dep : Int) ≤ 1000000000 →
  Calls Tryz.prog 25 #[e.val, .string a, .string path, .int .i64 i] w (RfP B (G.rf path n e a i) w)
theorem G.InS.in_zero {w : World} {B : Nat} (_ : G.InS w (fun _ => True) G.zero) : G.In w B G.zero := (by
  rw [G.in_eq, G.inL_iff]
  refine ⟨⟨?_, ?_, ?_, ?_, by show (⟨#[]⟩ : ByteArray).size ≤ _; decide, by show 0 ≤ _; omega, fun s hs => absurd hs (by show ¬ s ∈ []; simp), Row.nil _ _ _, by show 0 ≤ _; omega, Row.nil _ _ _⟩, fun k hk => absurd hk (by show ¬ k ∈ []; simp)⟩ <;> (show inI 0; unfold inI; omega))
set_option maxRecDepth 100000 in
set_option maxHeartbeats 4000000 in
theorem rfind_array (e : G) (h2 : e.kd = 2) (ih : ∀ k ∈ e.ks, RfE k) : RfE e := by
  intro n a path i0_ B w hB hin hV hnod hdep hsa hi0 hi1
  have X := AnZ.start w e 26 26
  have hn1 : G.rf path n e a i0_ = if a = path then some (e, i0_) else G.rfL (fun k a j => G.rf path (n - 1) k a j) a (G.comps e) i0_ := rf_eq n e a i0_ hdep
  have hcl := comps_len hV
  have hkids : ∀ k ∈ e.ks, G.In w B k := G.inL_iff.1 hin.kids
  have HIK := Lib.hid (fun (i : Nat) (c : ByteArray × G) (hc : (G.comps e)[i]? = some c) (j : Int) (W : World) (hb : Below w.heap.size w W) (hj0 : 0 ≤ j) (hj : j ≤ i0_ + 33 * (i : Int)) => by
    have hm := List.mem_of_getElem? hc
    have h1 := G.comp_ok hV hm
    have hd := G.comp_dep hm
    have hlt := (List.getElem?_eq_some_iff.1 hc).1
    exact ih c.2 h1.1 (n - 1) (jn a c.1) path j B W (Nat.le_trans hB hb.size) ((hkids _ h1.1).below (hb.mono hB)) (hV.kid h1.1) (by have := G.nodesL_mem h1.1; rw [G.nodes_eq] at hnod; omega) (by have := G.dep_one c.2; omega) (by rw [jn_size]; omega) hj0 (by omega))
  have HKB := Lib.hid (fun (i : Nat) (c : ByteArray × G) (hc : (G.comps e)[i]? = some c) => show (0 ≤ c.2.cnt ∧ c.2.cnt ≤ 33) ∧ c.1.size ≤ 12 from by
    have hm := List.mem_of_getElem? hc
    have h1 := G.comp_ok hV hm
    have hv := hV.kid h1.1
    exact ⟨G.cnt_bd c.2 (G.no_badA hv.mal hv.out), h1.2⟩)
  have HKC := Lib.hid (fun (i : Nat) (c : ByteArray × G) (hc : (G.comps e)[i]? = some c) (W : World) (hW : B ≤ W.heap.size) (hk : G.In W B c.2) => by
    have hm := List.mem_of_getElem? hc
    have h1 := G.comp_ok hV hm
    have hv := hV.kid h1.1
    exact rcount_any c.2 W (hk.more hW) (G.no_badA hv.mal hv.out) (by have := G.nodesL_mem h1.1; rw [G.nodes_eq] at hnod; omega))
  have hl := hin.l
  have f := (G.mal_iff e).1 (G.any_self hV.mal)
  have ho' := G.any_self hV.out
  unfold G.out G.inr at ho'
  rw [Bool.not_eq_false', Bool.and_eq_true, Bool.and_eq_true] at ho'
  have hs := ho'.1.2
  rw [h2] at hs
  simp at hs
  have hk1 := f.ar h2
  obtain ⟨s, hse⟩ : ∃ s : Nat, Hid (e.sz = (s : Int)) := ⟨e.sz.toNat, Lib.hid (by omega)⟩
  have hs1 : s ≤ 32 := by have := hse.out; omega
  obtain ⟨A, hA⟩ : ∃ A, Hid (e.ad = A) := ⟨_, Lib.hid rfl⟩
  rw [hA.out] at hl
  obtain ⟨ab, off, k, hA2, hab, -, his, hkin⟩ := hl.at_ (show 0 < e.ks.length by omega)
  have HD := Lib.hid (fun (W : World) (hb : Below w.heap.size w W) => by
    obtain ⟨ab', off', k', hA3, hab', hel, his', _⟩ := (hl.below (hb.mono hB)).at_ (show 0 < e.ks.length by omega)
    rw [Nat.zero_mul, Nat.add_zero] at hel
    have h1 := G.is_inj his' his
    subst h1
    have h3 : ab' = ab ∧ off' = off := by have := hA3.symm.trans hA2; simpa using this
    rw [h3.1, h3.2] at hel
    exact hel)
  have HL : Hid (G.comps e = (List.range s).map fun i => (num i, k)) := Lib.hid (by
    obtain ⟨h0, hk0⟩ := his.eq
    unfold G.comps
    rw [if_pos h2, hse.out, Int.toNat_natCast]
    cases hks : e.ks with
    | nil => rw [hks] at h0; simp at h0
    | cons a l => simp only [hks, List.getElem_cons_zero] at hk0; subst hk0; rfl)
  obtain ⟨cs, hcs⟩ : ∃ cs, Hid (G.comps e = cs) := ⟨_, Lib.hid rfl⟩
  rw [hcs.out] at hn1 HIK HKB HKC hcl
  obtain ⟨o, ho⟩ : ∃ o, Hid (G.rf path n e a i0_ = o) := ⟨_, Lib.hid rfl⟩
  rw [ho.out] at hn1 ⊢
  have HO0 := Lib.hid hn1
  have hasz : a.size ≤ 1000 := by omega
  have HIN := Lib.hid hin
  have HCS : Hid (∀ i, i < s → cs[i]? = some (num i, k)) := Lib.hid (fun i hi => by rw [← hcs.out, HL.out, List.getElem?_map, List.getElem?_range hi]; rfl)
  have hcn : Hid (cs.length = s) := Lib.hid (by rw [← hcs.out, HL.out]; simp)
  have hadI := Lib.hid (show e.ad = some ⟨ab, off, none⟩ from hA.out.trans hA2)
  have hlen := Lib.hid hk1
  have HK2 := Lib.hid h2
  have HKI := Lib.hid hkin
  clear hs ho' f h2 hl hA2 hab his hkin hA HL hcs ho hn1 hk1 ih hin hV hkids hnod hdep hsa hcl
  go_enter Tryz.func25, Tryz.ntmps25
  go_upto_region 1 with (fail)
  revert X
  generalize (w.alloc (.cells #[.int .i64 e.kd, .int .i64 e.lo, .int .i64 e.hi, .int .i64 e.sz, .string e.nm, .slice e.na e.ns.length e.nc, .slice e.ad e.ks.length e.cap] 26)).alloc (.cells zbox 26) = w1
  intro X
  obtain ⟨k0, k1, k2, k3, k4, k5, k6⟩ := box_cells X.be
  by_cases hap : a = path
  · have q0 : (a.toList == path.toList) = true := by rw [str_eq]; exact decide_eq_true hap
    have HO : Hid (o = some (e, i0_)) := Lib.hid (by rw [HO0.out, if_pos hap])
    have hxe := HIN.out.below (X.bel.mono hB)
    clear HIK HKB HKC HO0 hap
    obtain ⟨z0, z1, z2, z3, z4, z5, z6⟩ := box_zero X.br
    have f0 := X.br.fr 0
    have f1 := X.br.fr 1
    have f2 := X.br.fr 2
    have f3 := X.br.fr 3
    have f4 := X.br.fr 4
    have f5 := X.br.fr 5
    have f6 := X.br.fr 6
    have hzW := X.bel.size
    have HI2 := Lib.hid (pt7_lo (w3 := w1) (b := w.heap.size + 1) (x := e) (B := B) hxe (by omega) (by omega))
    have HBl := Lib.hid (X.bel.grown (pt7_grown w1 (w.heap.size + 1) e) X.bel.size (fun k e => by cases e; omega))
    have HP := Lib.hid (bx7q (seven_put X.br (.int .i64 e.kd) (.int .i64 e.lo) (.int .i64 e.hi) (.int .i64 e.sz) (.string e.nm) (.slice e.na e.ns.length e.nc) (.slice e.ad e.ks.length e.cap)))
    go_wp2_with fail
    obtain ⟨r0, r1, r2, r3, r4, r5, r6⟩ := HP.out
    refine bodyPost_ret (v := .tuple #[e.val, .int .i64 i0_, .bool true]) (res_box (b := w.heap.size + 1) rfl rfl rfl r0 r1 r2 r3 r4 r5 r6) rfl ?_
    unfold RfP
    exact ⟨e, i0_, by rw [HO.out, Option.isSome_some], ((congrArg fty HO.out).trans (fty_some e i0_)).symm, fun q' hq => congrArg Prod.snd (Option.some.inj (HO.out.symm.trans hq)), HI2.out, HBl.out⟩
  have q0 : (a.toList == path.toList) = false := by rw [str_eq]; exact decide_eq_false hap
  have HO1 : Hid (o = G.rfL (fun k a j => G.rf path (n - 1) k a j) a (cs.drop 0) i0_) := Lib.hid (by rw [HO0.out, if_neg hap]; rfl)
  clear HO0 hap
  rw [HK2.out] at k0
  rw [hse.out] at k3
  go_wp2_with fail
  clear k0 k1 k2 k3 k4 k5 k6
  go_loopw [3, 12, 13, 14, 15, 16, 17] (fun fv iv t13 t14 t15 t16 t17 wr => ∃ (i : Nat) (j : Int), i ≤ s ∧ iv = .int .i64 (i : Int) ∧ fv = .int .i64 j ∧ Hid (o = G.rfL (fun k a j => G.rf path (n - 1) k a j) a (cs.drop i) j) ∧ 0 ≤ j ∧ j ≤ i0_ + 33 * (i : Int) ∧ AnZ w wr e) (fun _ iv _ _ _ _ _ _ => s - (intOf iv).toNat)
  case atStart => exact ⟨0, i0_, Nat.zero_le _, rfl, rfl, HO1, hi0, by omega, X⟩
  case round =>
    clear X HO1
    obtain ⟨i, j, hi, rfl, rfl, hpk, hj0, hj1, Y⟩ := hrel
    by_cases hlt : i < s
    · have hci := HCS.out i hlt
      have hnum := Lib.hid (fun W => rnumber_any i (by omega) W)
      have hnz := num_size i
      revert hci hnum hnz
      generalize num i = nm
      intro hci hnum hnz
      obtain ⟨c0, hc0⟩ : ∃ c0 : ByteArray × G, c0 = (nm, k) := ⟨_, rfl⟩
      rw [← hc0] at hci
      have Ya := Y.below (al1 wr (.cells zbox 26))
      have B13 := Blk.new_ wr zbox 26
      obtain ⟨z0, z1, z2, z3, z4, z5, z6⟩ := box_zero B13
      have f0 := B13.fr 0
      have f1 := B13.fr 1
      have f2 := B13.fr 2
      have f3 := B13.fr 3
      have f4 := B13.fr 4
      have f5 := B13.fr 5
      have f6 := B13.fr 6
      have b4 : Below wr.heap.size wr (wr.alloc (.cells k.box 26)) := al1 wr _
      have BK4 : Blk (wr.alloc (.cells k.box 26)) wr.heap.size k.box := Blk.new_ wr k.box 26
      have X4 := Y.below b4
      obtain ⟨d0, d1, d2, d3, d4, d5, d6⟩ := HD.out _ Ya.bel
      have u0 := (box_cells Ya.be).1
      have u6 := (box_cells Ya.be).2.2.2.2.2.2
      rw [HK2.out] at u0
      rw [hadI.out, hlen.out] at u6
      go_upto_region 13 with (fail)
      clear d0 d1 d2 d3 d4 d5 d6 u0 u6 z0 z1 z2 z3 z4 z5 z6 f0 f1 f2 f3 f4 f5 f6 Ya B13 Y
      revert b4 BK4 X4
      generalize wr.alloc (.cells #[.int .i64 k.kd, .int .i64 k.lo, .int .i64 k.hi, .int .i64 k.sz, .string k.nm, .slice k.na k.ns.length k.nc, .slice k.ad k.ks.length k.cap] 26) = w4
      intro b4 BK4 X4
      go_wp2_with fail
      refine (hnum.out _).mono ?_
      rintro r w5 ⟨rfl, b5⟩
      have X5 := X4.below b5
      have BK := BK4.below b5 BK4.lt
      have hB5 : B ≤ w5.heap.size := Nat.le_trans hB X5.bel.size
      have hk5 := HKI.out.below (X5.bel.mono hB)
      clear b4 b5 BK4 X4 hnum
      subst hc0
      have hpk2 := hpk.out
      rw [rfL_drop hci] at hpk2
      dsimp only at hpk2
      have HI0 := HIK.out i (nm, k) hci j w5 X5.bel hj0 hj1
      dsimp only at HI0
      rw [← jn_app] at HI0
      obtain ⟨o1, ho1⟩ : ∃ o1, Hid (G.rf path (n - 1) k (jn a nm) j = o1) := ⟨_, Lib.hid rfl⟩
      rw [jn_app, ho1.out, ← jn_app] at HI0
      rw [ho1.out] at hpk2
      have HI := Lib.hid HI0
      have HP2 := Lib.hid hpk2
      unfold RfP at HI
      obtain ⟨m0, m1, m2, m3, m4, m5, m6⟩ := box_cells BK
      have hc1 : (9223372036854775807 < a.size + 1) = False := by simp; omega
      have hc2 : (9223372036854775807 < a.size + 1 + nm.size) = False := by simp; omega
      clear HI0 hpk2 ho1 hpk
      go_wp2_with fail
      refine HI.out.mono ?_
      rintro r w6 ⟨x, j', rfl, hxb, hjq, hx, b6⟩
      have b7 := bTrans b6 (al1 w6 (.cells x.box 26))
      have BX := Blk.new_ w6 x.box 26
      have hx7 := hx.below ((al1 w6 (.cells x.box 26)).mono (Nat.le_trans hB5 b6.size))
      have X7 := X5.below b7
      have BK7 := BK.below b7 BK.lt
      clear m0 m1 m2 m3 m4 m5 m6 HI hx b6 X5 BK hc1 hc2
      go_upto_region 17 with (fail)
      revert BX hx7 X7 BK7 b7
      generalize w6.alloc (.cells #[.int .i64 x.kd, .int .i64 x.lo, .int .i64 x.hi, .int .i64 x.sz, .string x.nm, .slice x.na x.ns.length x.nc, .slice x.ad x.ks.length x.cap] 26) = w7
      intro b7 BX hx7 X7 BK7
      cases o1 with
      | some q =>
        have HO : Hid (o = some q) := Lib.hid HP2.out
        have hj := hjq q rfl
        subst hj
        obtain ⟨n0, n1, n2, n3, n4, n5, n6⟩ := box_cells BX
        have hob : (some q : Option (G × Int)).isSome = true := rfl
        have hxq : x.bare = q.1.bare := hxb
        clear HP2 hxb hjq BK7 HIK HKC
        obtain ⟨z0, z1, z2, z3, z4, z5, z6⟩ := box_zero X7.br
        have f0 := X7.br.fr 0
        have f1 := X7.br.fr 1
        have f2 := X7.br.fr 2
        have f3 := X7.br.fr 3
        have f4 := X7.br.fr 4
        have f5 := X7.br.fr 5
        have f6 := X7.br.fr 6
        have hzW := X7.bel.size
        have HI2 := Lib.hid (pt7_lo (w3 := w7) (b := w.heap.size + 1) (x := x) (B := B) hx7 (by omega) (by omega))
        have HBl := Lib.hid (X7.bel.grown (pt7_grown w7 (w.heap.size + 1) x) X7.bel.size (fun k e => by cases e; omega))
        have HP := Lib.hid (bx7q (seven_put X7.br (.int .i64 x.kd) (.int .i64 x.lo) (.int .i64 x.hi) (.int .i64 x.sz) (.string x.nm) (.slice x.na x.ns.length x.nc) (.slice x.ad x.ks.length x.cap)))
        go_wp2_with fail
        obtain ⟨r0, r1, r2, r3, r4, r5, r6⟩ := HP.out
        refine bodyPost_ret (v := .tuple #[x.val, .int .i64 q.2, .bool true]) (res_box (b := w.heap.size + 1) rfl rfl rfl r0 r1 r2 r3 r4 r5 r6) rfl ?_
        unfold RfP
        exact ⟨x, q.2, by rw [HO.out, Option.isSome_some], hxq.trans ((congrArg fty HO.out).trans (fty_some q.1 q.2)).symm, fun q' hq => congrArg Prod.snd (Option.some.inj (HO.out.symm.trans hq)), HI2.out, HBl.out⟩
      | none =>
        have HO : Hid (o = G.rfL (fun k a j => G.rf path (n - 1) k a j) a (cs.drop (i + 1)) (j + k.cnt)) := Lib.hid HP2.out
        obtain ⟨n0, n1, n2, n3, n4, n5, n6⟩ := box_cells BK7
        have hob : (none : Option (G × Int)).isSome = false := rfl
        have HC := Lib.hid (HKC.out i (nm, k) hci w7 (Nat.le_trans hB5 b7.size) (hk5.below (b7.mono hB5)))
        dsimp only at HC
        have hcb := HKB.out i (nm, k) hci
        dsimp only at hcb
        have e1 : IntKind.i64.wrap (j + k.cnt) = j + k.cnt := IntWalk.i64_in _ (by omega)
        clear HP2 hxb hjq BX hx7 HIK
        go_wp2_with fail
        refine HC.out.mono ?_
        rintro r w8 ⟨rfl, b8⟩
        have X8 := X7.below b8
        clear n0 n1 n2 n3 n4 n5 n6 HC BK7 X7
        go_wp2_with fail
        go_roundw
        case rel => exact ⟨i + 1, j + k.cnt, by omega, by go_num, rfl, HO, by omega, by omega, X8⟩
        case measure => simp [intOf]; omega
    · obtain rfl : i = s := by omega
      have HO : Hid (o = none) := Lib.hid (by rw [hpk.out, List.drop_of_length_le (by rw [hcn.out]; exact Nat.le_refl _)]; rfl)
      have hxe : G.In wr B G.zero := (zero_in wr (fun _ => True)).in_zero
      clear hpk HIK HKC
      obtain ⟨z0, z1, z2, z3, z4, z5, z6⟩ := box_zero Y.br
      have f0 := Y.br.fr 0
      have f1 := Y.br.fr 1
      have f2 := Y.br.fr 2
      have f3 := Y.br.fr 3
      have f4 := Y.br.fr 4
      have f5 := Y.br.fr 5
      have f6 := Y.br.fr 6
      have hzW := Y.bel.size
      have HI2 := Lib.hid (pt7_lo (w3 := wr) (b := w.heap.size + 1) (x := G.zero) (B := B) hxe (by omega) (by omega))
      have HBl := Lib.hid (Y.bel.grown (pt7_grown wr (w.heap.size + 1) G.zero) Y.bel.size (fun k e => by cases e; omega))
      have HP := Lib.hid (box_cells (e := G.zero) (seven_put Y.br (.int .i64 0) (.int .i64 0) (.int .i64 0) (.int .i64 0) (.string ⟨#[]⟩) (.slice none 0 0) (.slice none 0 0)))
      go_wp2_with fail
      obtain ⟨r0, r1, r2, r3, r4, r5, r6⟩ := HP.out
      refine bodyPost_ret (v := .tuple #[G.zero.val, .int .i64 0, .bool false]) (res_box (b := w.heap.size + 1) rfl rfl rfl r0 r1 r2 r3 r4 r5 r6) rfl ?_
      unfold RfP
      exact ⟨G.zero, 0, by rw [HO.out, Option.isSome_none], zero_bare.trans ((congrArg fty HO.out).trans fty_none).symm, fun q' hq => absurd (HO.out.symm.trans hq) (by simp), HI2.out, HBl.out⟩
end Go.Proofs.YtlifnabeilnblaaGreatDoor
/- Walks: the search of the reference of types, where the components are not those of an array; Find of the reference. -/
namespace Go.Proofs.YtlifnabeilnblaaGreatDoor
open Go.RowKit Go.Sort
set_option linter.unusedVariables false

set_option maxRecDepth 100000 in
set_option maxHeartbeats 4000000 in
theorem rfind_rest (e : G) (h2 : e.kd ≠ 2) (ih : ∀ k ∈ e.ks, RfE k) : RfE e := by
  intro n a path i0_ B w hB hin hV hnod hdep hsa hi0 hi1
  have X := AnZ.start w e 26 26
  have hn1 : G.rf path n e a i0_ = if a = path then some (e, i0_) else G.rfL (fun k a j => G.rf path (n - 1) k a j) a (G.comps e) i0_ := rf_eq n e a i0_ hdep
  have hcl := comps_len hV
  have hkids : ∀ k ∈ e.ks, G.In w B k := G.inL_iff.1 hin.kids
  have HIK := Lib.hid (fun (i : Nat) (c : ByteArray × G) (hc : (G.comps e)[i]? = some c) (j : Int) (W : World) (hb : Below w.heap.size w W) (hj0 : 0 ≤ j) (hj : j ≤ i0_ + 33 * (i : Int)) => by
    have hm := List.mem_of_getElem? hc
    have h1 := G.comp_ok hV hm
    have hd := G.comp_dep hm
    have hlt := (List.getElem?_eq_some_iff.1 hc).1
    exact ih c.2 h1.1 (n - 1) (jn a c.1) path j B W (Nat.le_trans hB hb.size) ((hkids _ h1.1).below (hb.mono hB)) (hV.kid h1.1) (by have := G.nodesL_mem h1.1; rw [G.nodes_eq] at hnod; omega) (by have := G.dep_one c.2; omega) (by rw [jn_size]; omega) hj0 (by omega))
  have HKB := Lib.hid (fun (i : Nat) (c : ByteArray × G) (hc : (G.comps e)[i]? = some c) => show (0 ≤ c.2.cnt ∧ c.2.cnt ≤ 33) ∧ c.1.size ≤ 12 from by
    have hm := List.mem_of_getElem? hc
    have h1 := G.comp_ok hV hm
    have hv := hV.kid h1.1
    exact ⟨G.cnt_bd c.2 (G.no_badA hv.mal hv.out), h1.2⟩)
  have HKC := Lib.hid (fun (i : Nat) (c : ByteArray × G) (hc : (G.comps e)[i]? = some c) (W : World) (hW : B ≤ W.heap.size) (hk : G.In W B c.2) => by
    have hm := List.mem_of_getElem? hc
    have h1 := G.comp_ok hV hm
    have hv := hV.kid h1.1
    exact rcount_any c.2 W (hk.more hW) (G.no_badA hv.mal hv.out) (by have := G.nodesL_mem h1.1; rw [G.nodes_eq] at hnod; omega))
  have hl := hin.l
  have hnd := hin.nd
  have f := (G.mal_iff e).1 (G.any_self hV.mal)
  have ho' := G.any_self hV.out
  unfold G.out G.inr at ho'
  rw [Bool.not_eq_false', Bool.and_eq_true, Bool.and_eq_true] at ho'
  have hz3 : G.comps e = e.ns.zip e.ks ∧ e.ks.length = e.ns.length ∧ e.ks.length ≤ 32 := by
    by_cases h3 : e.kd = 3
    · have hs := ho'.2
      rw [h3] at hs
      simp at hs
      exact ⟨by unfold G.comps; rw [if_neg h2, if_pos h3], (f.rc h3).2, hs⟩
    · have q1 := f.ks h2 h3
      have q2 := f.ns h3
      exact ⟨by unfold G.comps; rw [if_neg h2, if_neg h3, List.eq_nil_of_length_eq_zero q1, List.eq_nil_of_length_eq_zero q2]; rfl, by omega, by omega⟩
  obtain ⟨hcz, hrc, hs⟩ := hz3
  obtain ⟨A, hA⟩ : ∃ A, Hid (e.ad = A) := ⟨_, Lib.hid rfl⟩
  rw [hA.out] at hl
  obtain ⟨NA, hNA⟩ : ∃ A, Hid (e.na = A) := ⟨_, Lib.hid rfl⟩
  obtain ⟨nn, hnn⟩ : ∃ n, Hid (e.ks.length = n) := ⟨_, Lib.hid rfl⟩
  have hnn2 : Hid (e.ns.length = nn) := Lib.hid (by rw [← hrc, hnn.out])
  have hn32 : nn ≤ 32 := by rw [← hnn.out]; exact hs
  obtain ⟨cs, hcs⟩ : ∃ cs, Hid (G.comps e = cs) := ⟨_, Lib.hid rfl⟩
  rw [hcs.out] at hn1 HIK HKB HKC hcl
  obtain ⟨o, ho⟩ : ∃ o, Hid (G.rf path n e a i0_ = o) := ⟨_, Lib.hid rfl⟩
  rw [ho.out] at hn1 ⊢
  have HO0 := Lib.hid hn1
  have hasz : a.size ≤ 1000 := by omega
  have HIN := Lib.hid hin
  have hzl : (e.ns.zip e.ks).length = nn := by rw [List.length_zip, hnn.out, hnn2.out]; omega
  have hcn : Hid (cs.length = nn) := Lib.hid (by rw [← hcs.out, hcz, hzl])
  have HZ := Lib.hid (show ∀ (i : Nat) (h1 : i < e.ns.length) (h0 : i < e.ks.length), cs[i]? = some (e.ns[i], e.ks[i]) from fun i h1 h0 => by
    have hz : i < (e.ns.zip e.ks).length := by rw [List.length_zip]; omega
    rw [← hcs.out, hcz, List.getElem?_eq_getElem hz, List.getElem_zip])
  have HKI := Lib.hid hkids
  have qk : (e.kd == 2) = false := by simpa using h2
  clear hs ho' f h2 ho hn1 ih hin hV hkids hnod hdep hsa hcl hcz hrc hzl
  go_enter Tryz.func25, Tryz.ntmps25
  go_upto_region 1 with (fail)
  revert X
  generalize (w.alloc (.cells #[.int .i64 e.kd, .int .i64 e.lo, .int .i64 e.hi, .int .i64 e.sz, .string e.nm, .slice e.na e.ns.length e.nc, .slice e.ad e.ks.length e.cap] 26)).alloc (.cells zbox 26) = w1
  intro X
  obtain ⟨k0, k1, k2, k3, k4, k5, k6⟩ := box_cells X.be
  by_cases hap : a = path
  · have q0 : (a.toList == path.toList) = true := by rw [str_eq]; exact decide_eq_true hap
    have HO : Hid (o = some (e, i0_)) := Lib.hid (by rw [HO0.out, if_pos hap])
    have hxe := HIN.out.below (X.bel.mono hB)
    clear HIK HKB HKC HO0 hap
    obtain ⟨z0, z1, z2, z3, z4, z5, z6⟩ := box_zero X.br
    have f0 := X.br.fr 0
    have f1 := X.br.fr 1
    have f2 := X.br.fr 2
    have f3 := X.br.fr 3
    have f4 := X.br.fr 4
    have f5 := X.br.fr 5
    have f6 := X.br.fr 6
    have hzW := X.bel.size
    have HI2 := Lib.hid (pt7_lo (w3 := w1) (b := w.heap.size + 1) (x := e) (B := B) hxe (by omega) (by omega))
    have HBl := Lib.hid (X.bel.grown (pt7_grown w1 (w.heap.size + 1) e) X.bel.size (fun k e => by cases e; omega))
    have HP := Lib.hid (bx7q (seven_put X.br (.int .i64 e.kd) (.int .i64 e.lo) (.int .i64 e.hi) (.int .i64 e.sz) (.string e.nm) (.slice e.na e.ns.length e.nc) (.slice e.ad e.ks.length e.cap)))
    go_wp2_with fail
    obtain ⟨r0, r1, r2, r3, r4, r5, r6⟩ := HP.out
    refine bodyPost_ret (v := .tuple #[e.val, .int .i64 i0_, .bool true]) (res_box (b := w.heap.size + 1) rfl rfl rfl r0 r1 r2 r3 r4 r5 r6) rfl ?_
    unfold RfP
    exact ⟨e, i0_, by rw [HO.out, Option.isSome_some], ((congrArg fty HO.out).trans (fty_some e i0_)).symm, fun q' hq => congrArg Prod.snd (Option.some.inj (HO.out.symm.trans hq)), HI2.out, HBl.out⟩
  have q0 : (a.toList == path.toList) = false := by rw [str_eq]; exact decide_eq_false hap
  have HO1 : Hid (o = G.rfL (fun k a j => G.rf path (n - 1) k a j) a (cs.drop 0) i0_) := Lib.hid (by rw [HO0.out, if_neg hap]; rfl)
  clear HO0 hap
  rw [hnn.out] at k6
  go_wp2_with fail
  clear k0 k1 k2 k3 k4 k5 k6
  go_loopw [3, 12, 13, 14, 15, 16, 17] (fun fv iv t13 t14 t15 t16 t17 wr => ∃ (i : Nat) (j : Int), i ≤ nn ∧ iv = .int .i64 (i : Int) ∧ fv = .int .i64 j ∧ Hid (o = G.rfL (fun k a j => G.rf path (n - 1) k a j) a (cs.drop i) j) ∧ 0 ≤ j ∧ j ≤ i0_ + 33 * (i : Int) ∧ AnZ w wr e) (fun _ iv _ _ _ _ _ _ => nn - (intOf iv).toNat)
  case atStart => exact ⟨0, i0_, Nat.zero_le _, rfl, rfl, HO1, hi0, by omega, X⟩
  case round =>
    clear X HO1
    obtain ⟨i, j, hi, rfl, rfl, hpk, hj0, hj1, Y⟩ := hrel
    by_cases hlt : i < nn
    · have Ya := Y.below (al1 wr (.cells zbox 26))
      have B13 := Blk.new_ wr zbox 26
      obtain ⟨z0, z1, z2, z3, z4, z5, z6⟩ := box_zero B13
      have f0 := B13.fr 0
      have f1 := B13.fr 1
      have f2 := B13.fr 2
      have f3 := B13.fr 3
      have f4 := B13.fr 4
      have f5 := B13.fr 5
      have f6 := B13.fr 6
      have hlt1 : i < e.ks.length := by rw [hnn.out]; exact hlt
      have hlt2 : i < e.ns.length := by rw [hnn2.out]; exact hlt
      obtain ⟨ab, off, k, hA2, hab, hd, his, _⟩ := (hl.below (Ya.bel.mono hB)).at_ hlt1
      obtain rfl : A = some ⟨ab, off, none⟩ := hA2
      have b4 : Below wr.heap.size wr (wr.alloc (.cells k.box 26)) := al1 wr _
      have BK4 : Blk (wr.alloc (.cells k.box 26)) wr.heap.size k.box := Blk.new_ wr k.box 26
      have X4 := Y.below b4
      obtain ⟨nb, no, hN2, hnb, hnc⟩ := (hnd.below (X4.bel.mono hB)).name_at hlt2
      obtain rfl : NA = some ⟨nb, no, none⟩ := hNA.out.symm.trans hN2
      have hci0 : ∀ s, s = e.ns[i] → cs[i]? = some (s, k) := fun s hs => by
        obtain ⟨h0, hk0⟩ := his.eq
        rw [HZ.out i hlt2 h0, hs, hk0]
      have hkin : G.In w B k := by
        obtain ⟨h0, hk0⟩ := his.eq
        rw [← hk0]
        exact HKI.out _ (List.getElem_mem h0)
      revert hnc hci0
      generalize e.ns[i] = nm
      intro hnc hci0
      have hci1 := hci0 nm rfl
      obtain ⟨c0, hc0⟩ : ∃ c0 : ByteArray × G, c0 = (nm, k) := ⟨_, rfl⟩
      have hci := hci1
      rw [← hc0] at hci
      have hnz : nm.size ≤ 12 := (HKB.out i _ hci1).2
      have u0 := (box_cells Ya.be).1
      have u5 := (box_cells Ya.be).2.2.2.2.2.1
      have u6 := (box_cells Ya.be).2.2.2.2.2.2
      rw [hA.out, hnn.out] at u6
      obtain ⟨d0, d1, d2, d3, d4, d5, d6⟩ := hd
      clear hci0 hci1 hN2 his
      go_upto_region 15 with (fail)
      clear d0 d1 d2 d3 d4 d5 d6 u0 u5 u6 z0 z1 z2 z3 z4 z5 z6 f0 f1 f2 f3 f4 f5 f6 Ya B13 Y
      revert b4 BK4 X4 hnc
      generalize wr.alloc (.cells #[.int .i64 k.kd, .int .i64 k.lo, .int .i64 k.hi, .int .i64 k.sz, .string k.nm, .slice k.na k.ns.length k.nc, .slice k.ad k.ks.length k.cap] 26) = w5
      intro b5 BK5 X5 hnc
      have BK := BK5
      have hB5 : B ≤ w5.heap.size := Nat.le_trans hB X5.bel.size
      have hk5 := hkin.below (X5.bel.mono hB)
      have v5 := (box_cells X5.be).2.2.2.2.2.1
      rw [hNA.out, hnn2.out] at v5
      clear b5 BK5 hkin
      subst hc0
      have hpk2 := hpk.out
      rw [rfL_drop hci] at hpk2
      dsimp only at hpk2
      have HI0 := HIK.out i (nm, k) hci j w5 X5.bel hj0 hj1
      dsimp only at HI0
      rw [← jn_app] at HI0
      obtain ⟨o1, ho1⟩ : ∃ o1, Hid (G.rf path (n - 1) k (jn a nm) j = o1) := ⟨_, Lib.hid rfl⟩
      rw [jn_app, ho1.out, ← jn_app] at HI0
      rw [ho1.out] at hpk2
      have HI := Lib.hid HI0
      have HP2 := Lib.hid hpk2
      unfold RfP at HI
      obtain ⟨m0, m1, m2, m3, m4, m5, m6⟩ := box_cells BK
      have hc1 : (9223372036854775807 < a.size + 1) = False := by simp; omega
      have hc2 : (9223372036854775807 < a.size + 1 + nm.size) = False := by simp; omega
      clear HI0 hpk2 ho1 hpk
      go_wp2_with fail
      refine HI.out.mono ?_
      rintro r w6 ⟨x, j', rfl, hxb, hjq, hx, b6⟩
      have b7 := bTrans b6 (al1 w6 (.cells x.box 26))
      have BX := Blk.new_ w6 x.box 26
      have hx7 := hx.below ((al1 w6 (.cells x.box 26)).mono (Nat.le_trans hB5 b6.size))
      have X7 := X5.below b7
      have BK7 := BK.below b7 BK.lt
      clear m0 m1 m2 m3 m4 m5 m6 HI hx b6 X5 BK hc1 hc2 v5 hnc
      go_upto_region 17 with (fail)
      revert BX hx7 X7 BK7 b7
      generalize w6.alloc (.cells #[.int .i64 x.kd, .int .i64 x.lo, .int .i64 x.hi, .int .i64 x.sz, .string x.nm, .slice x.na x.ns.length x.nc, .slice x.ad x.ks.length x.cap] 26) = w7
      intro b7 BX hx7 X7 BK7
      cases o1 with
      | some q =>
        have HO : Hid (o = some q) := Lib.hid HP2.out
        have hj := hjq q rfl
        subst hj
        obtain ⟨n0, n1, n2, n3, n4, n5, n6⟩ := box_cells BX
        have hob : (some q : Option (G × Int)).isSome = true := rfl
        have hxq : x.bare = q.1.bare := hxb
        clear HP2 hxb hjq BK7 HIK HKC
        obtain ⟨z0, z1, z2, z3, z4, z5, z6⟩ := box_zero X7.br
        have f0 := X7.br.fr 0
        have f1 := X7.br.fr 1
        have f2 := X7.br.fr 2
        have f3 := X7.br.fr 3
        have f4 := X7.br.fr 4
        have f5 := X7.br.fr 5
        have f6 := X7.br.fr 6
        have hzW := X7.bel.size
        have HI2 := Lib.hid (pt7_lo (w3 := w7) (b := w.heap.size + 1) (x := x) (B := B) hx7 (by omega) (by omega))
        have HBl := Lib.hid (X7.bel.grown (pt7_grown w7 (w.heap.size + 1) x) X7.bel.size (fun k e => by cases e; omega))
        have HP := Lib.hid (bx7q (seven_put X7.br (.int .i64 x.kd) (.int .i64 x.lo) (.int .i64 x.hi) (.int .i64 x.sz) (.string x.nm) (.slice x.na x.ns.length x.nc) (.slice x.ad x.ks.length x.cap)))
        go_wp2_with fail
        obtain ⟨r0, r1, r2, r3, r4, r5, r6⟩ := HP.out
        refine bodyPost_ret (v := .tuple #[x.val, .int .i64 q.2, .bool true]) (res_box (b := w.heap.size + 1) rfl rfl rfl r0 r1 r2 r3 r4 r5 r6) rfl ?_
        unfold RfP
        exact ⟨x, q.2, by rw [HO.out, Option.isSome_some], hxq.trans ((congrArg fty HO.out).trans (fty_some q.1 q.2)).symm, fun q' hq => congrArg Prod.snd (Option.some.inj (HO.out.symm.trans hq)), HI2.out, HBl.out⟩
      | none =>
        have HO : Hid (o = G.rfL (fun k a j => G.rf path (n - 1) k a j) a (cs.drop (i + 1)) (j + k.cnt)) := Lib.hid HP2.out
        obtain ⟨n0, n1, n2, n3, n4, n5, n6⟩ := box_cells BK7
        have hob : (none : Option (G × Int)).isSome = false := rfl
        have HC := Lib.hid (HKC.out i (nm, k) hci w7 (Nat.le_trans hB5 b7.size) (hk5.below (b7.mono hB5)))
        dsimp only at HC
        have hcb := HKB.out i (nm, k) hci
        dsimp only at hcb
        have e1 : IntKind.i64.wrap (j + k.cnt) = j + k.cnt := IntWalk.i64_in _ (by omega)
        clear HP2 hxb hjq BX hx7 HIK
        go_wp2_with fail
        refine HC.out.mono ?_
        rintro r w8 ⟨rfl, b8⟩
        have X8 := X7.below b8
        clear n0 n1 n2 n3 n4 n5 n6 HC BK7 X7
        go_wp2_with fail
        go_roundw
        case rel => exact ⟨i + 1, j + k.cnt, by omega, by go_num, rfl, HO, by omega, by omega, X8⟩
        case measure => simp [intOf]; omega
    · obtain rfl : i = nn := by omega
      have HO : Hid (o = none) := Lib.hid (by rw [hpk.out, List.drop_of_length_le (by rw [hcn.out]; exact Nat.le_refl _)]; rfl)
      have hxe : G.In wr B G.zero := (zero_in wr (fun _ => True)).in_zero
      clear hpk HIK HKC
      obtain ⟨z0, z1, z2, z3, z4, z5, z6⟩ := box_zero Y.br
      have f0 := Y.br.fr 0
      have f1 := Y.br.fr 1
      have f2 := Y.br.fr 2
      have f3 := Y.br.fr 3
      have f4 := Y.br.fr 4
      have f5 := Y.br.fr 5
      have f6 := Y.br.fr 6
      have hzW := Y.bel.size
      have HI2 := Lib.hid (pt7_lo (w3 := wr) (b := w.heap.size + 1) (x := G.zero) (B := B) hxe (by omega) (by omega))
      have HBl := Lib.hid (Y.bel.grown (pt7_grown wr (w.heap.size + 1) G.zero) Y.bel.size (fun k e => by cases e; omega))
      have HP := Lib.hid (box_cells (e := G.zero) (seven_put Y.br (.int .i64 0) (.int .i64 0) (.int .i64 0) (.int .i64 0) (.string ⟨#[]⟩) (.slice none 0 0) (.slice none 0 0)))
      go_wp2_with fail
      obtain ⟨r0, r1, r2, r3, r4, r5, r6⟩ := HP.out
      refine bodyPost_ret (v := .tuple #[G.zero.val, .int .i64 0, .bool false]) (res_box (b := w.heap.size + 1) rfl rfl rfl r0 r1 r2 r3 r4 r5 r6) rfl ?_
      unfold RfP
      exact ⟨G.zero, 0, by rw [HO.out, Option.isSome_none], zero_bare.trans ((congrArg fty HO.out).trans fty_none).symm, fun q' hq => absurd (HO.out.symm.trans hq) (by simp), HI2.out, HBl.out⟩
theorem rfind_any (e : G) : RfE e := by
  induction e using G.ind with
  | h e ih =>
    by_cases h2 : e.kd = 2
    · exact rfind_array e h2 ih
    · exact rfind_rest e h2 ih
set_option maxRecDepth 100000 in
set_option maxHeartbeats 4000000 in
theorem rFind_any (e : G) (p : ByteArray) (w : World) (hin : G.In w w.heap.size e) (hnod : e.nodes ≤ 1000000) :
    Calls Tryz.prog 8 #[e.val, .string p] w (FnP (fnT e p) w) := by
  have X := AnZ.start w e 26 26
  have C1 := Lib.hid (fun W (i : AnZ w W e) => rcheck_any e W (hin.at i.bel) hnod)
  have HE : Hid (fnT e p = if G.chkT nmB e ≠ 0 then (G.zero, 0, G.chkT nmB e) else match G.pk (bs p).length e (bs p) 0 with | none => (G.zero, 0, 7) | some q => (q.1.bare, q.2, 0)) := Lib.hid rfl
  have HF := Lib.hid (fun (h : G.chkT nmB e = 0) W (i : AnZ w W e) => show Calls Tryz.prog 25 #[e.val, .string ⟨#[]⟩, .string p, .int .i64 0] W (RfP w.heap.size (G.pk (bs p).length e (bs p) 0) W) from by
    have V := G.Vd.of_chkT h
    have hd := V.dep
    have h1 := rfind_any e e.dep ⟨#[]⟩ p 0 w.heap.size W i.bel.size (hin.below i.bel) ⟨V.mal, V.mis, V.out, V.nam⟩ hnod (by omega) (by show 0 + 13 * e.dep ≤ 1000; omega) (by omega) (by omega)
    rw [G.rf_pk e.dep e ⟨#[]⟩ (bs p) 0 (bs p).length (G.good_chk h) (by rfl) (by omega) (Nat.le_refl _)] at h1
    exact h1)
  obtain ⟨c, hc⟩ : ∃ c, Hid (G.chkT nmB e = c) := ⟨_, Lib.hid rfl⟩
  obtain ⟨y, hy⟩ : ∃ y, Hid (fnT e p = y) := ⟨_, Lib.hid rfl⟩
  rw [hc.out] at C1 HE HF
  rw [hy.out] at HE ⊢
  clear hc hy hin hnod
  go_enter Tryz.func8, Tryz.ntmps8
  go_upto_region 1 with (fail)
  revert X
  generalize (w.alloc (.cells #[.int .i64 e.kd, .int .i64 e.lo, .int .i64 e.hi, .int .i64 e.sz, .string e.nm, .slice e.na e.ns.length e.nc, .slice e.ad e.ks.length e.cap] 26)).alloc (.cells zbox 26) = w1
  intro X
  obtain ⟨k0, k1, k2, k3, k4, k5, k6⟩ := box_cells X.be
  go_wp2_with fail
  refine (C1.out _ X).mono ?_
  rintro r w2 ⟨rfl, b2⟩
  replace X := X.below b2
  clear k0 k1 k2 k3 k4 k5 k6 b2 C1
  by_cases h0 : c = 0
  case neg =>
    have q0 : (c != 0) = true := by simpa using h0
    have HY : Hid (y = (G.zero, 0, c)) := Lib.hid (by rw [HE.out, if_pos h0])
    obtain ⟨z0, z1, z2, z3, z4, z5, z6⟩ := box_zero X.br
    have f0 := X.br.fr 0
    have f1 := X.br.fr 1
    have f2 := X.br.fr 2
    have f3 := X.br.fr 3
    have f4 := X.br.fr 4
    have f5 := X.br.fr 5
    have f6 := X.br.fr 6
    have HI2 := Lib.hid (pt7_in (w3 := w2) (b := w.heap.size + 1) (x := G.zero) (S := fun _ => False) (S' := fun _ => True) (zero_in _ _) (fun q hq _ => hq.elim))
    have HBl := Lib.hid (X.bel.grown (pt7_grown w2 (w.heap.size + 1) G.zero) X.bel.size (fun k e => by cases e; omega))
    have HP := Lib.hid (box_cells (e := G.zero) (seven_put X.br (.int .i64 0) (.int .i64 0) (.int .i64 0) (.int .i64 0) (.string ⟨#[]⟩) (.slice none 0 0) (.slice none 0 0)))
    clear HE HF h0
    go_wp2_with fail
    obtain ⟨r0, r1, r2, r3, r4, r5, r6⟩ := HP.out
    refine bodyPost_ret (v := .tuple #[G.zero.val, .int .i64 0, .int .i64 c]) (by simp [results, Tryz.results8, go_sem, r0, r1, r2, r3, r4, r5, r6]) rfl ?_
    unfold FnP
    exact ⟨G.zero, by rw [HY.out], by rw [HY.out]; exact zero_bare, G.InS.in_ _ HI2.out, HBl.out⟩
  have q0 : (c != 0) = false := by rw [h0]; rfl
  have HE2 : Hid (y = match G.pk (bs p).length e (bs p) 0 with | none => (G.zero, 0, 7) | some q => (q.1.bare, q.2, 0)) := Lib.hid (by rw [HE.out, if_neg (by rw [h0]; simp)])
  have HF2 := Lib.hid (HF.out h0 _ X)
  clear HE HF h0
  obtain ⟨o, ho⟩ : ∃ o, Hid (G.pk (bs p).length e (bs p) 0 = o) := ⟨_, Lib.hid rfl⟩
  rw [ho.out] at HF2 HE2
  clear ho
  unfold RfP at HF2
  obtain ⟨k0, k1, k2, k3, k4, k5, k6⟩ := box_cells X.be
  go_wp2_with fail
  refine HF2.out.mono ?_
  rintro r w5 ⟨x, j, rfl, hxb, hjq, hx, b5⟩
  have b6 := bTrans b5 (al1 w5 (.cells x.box 26))
  have BX := Blk.new_ w5 x.box 26
  have hx6 := hx.below ((al1 w5 (.cells x.box 26)).mono (Nat.le_trans X.bel.size b5.size))
  have X5 := X.below b6
  clear k0 k1 k2 k3 k4 k5 k6 HF2 hx b5 b6 X
  go_upto_region 5 with (fail)
  revert BX hx6 X5
  generalize w5.alloc (.cells #[.int .i64 x.kd, .int .i64 x.lo, .int .i64 x.hi, .int .i64 x.sz, .string x.nm, .slice x.na x.ns.length x.nc, .slice x.ad x.ks.length x.cap] 26) = w6
  intro BX hx6 X5
  cases o with
  | none =>
    have HY : Hid (y = (G.zero, 0, 7)) := Lib.hid HE2.out
    have hob : (none : Option (G × Int)).isSome = false := rfl
    obtain ⟨z0, z1, z2, z3, z4, z5, z6⟩ := box_zero X5.br
    have f0 := X5.br.fr 0
    have f1 := X5.br.fr 1
    have f2 := X5.br.fr 2
    have f3 := X5.br.fr 3
    have f4 := X5.br.fr 4
    have f5 := X5.br.fr 5
    have f6 := X5.br.fr 6
    have HI2 := Lib.hid (pt7_in (w3 := w6) (b := w.heap.size + 1) (x := G.zero) (S := fun _ => False) (S' := fun _ => True) (zero_in _ _) (fun q hq _ => hq.elim))
    have HBl := Lib.hid (X5.bel.grown (pt7_grown w6 (w.heap.size + 1) G.zero) X5.bel.size (fun k e => by cases e; omega))
    have HP := Lib.hid (box_cells (e := G.zero) (seven_put X5.br (.int .i64 0) (.int .i64 0) (.int .i64 0) (.int .i64 0) (.string ⟨#[]⟩) (.slice none 0 0) (.slice none 0 0)))
    clear HE2 BX hx6 hjq hxb
    go_wp2_with fail
    obtain ⟨r0, r1, r2, r3, r4, r5, r6⟩ := HP.out
    refine bodyPost_ret (v := .tuple #[G.zero.val, .int .i64 0, .int .i64 7]) (by simp [results, Tryz.results8, go_sem, r0, r1, r2, r3, r4, r5, r6]) rfl ?_
    unfold FnP
    exact ⟨G.zero, by rw [HY.out], by rw [HY.out]; exact zero_bare, G.InS.in_ _ HI2.out, HBl.out⟩
  | some q =>
    have HY : Hid (y = (q.1.bare, q.2, 0)) := Lib.hid HE2.out
    have hob : (some q : Option (G × Int)).isSome = true := rfl
    have hj := hjq q rfl
    subst hj
    have hxb2 : x.bare = q.1.bare := hxb
    obtain ⟨m0, m1, m2, m3, m4, m5, m6⟩ := box_cells BX
    obtain ⟨z0, z1, z2, z3, z4, z5, z6⟩ := box_zero X5.br
    have f0 := X5.br.fr 0
    have f1 := X5.br.fr 1
    have f2 := X5.br.fr 2
    have f3 := X5.br.fr 3
    have f4 := X5.br.fr 4
    have f5 := X5.br.fr 5
    have f6 := X5.br.fr 6
    have hs6 := X5.bel.size
    have HI2 := Lib.hid (pt7_lo (w3 := w6) (b := w.heap.size + 1) (x := x) (B := w.heap.size) hx6 (by omega) (by omega))
    have HBl := Lib.hid (X5.bel.grown (pt7_grown w6 (w.heap.size + 1) x) X5.bel.size (fun k e => by cases e; omega))
    have HP := Lib.hid (bx7q (seven_put X5.br (.int .i64 x.kd) (.int .i64 x.lo) (.int .i64 x.hi) (.int .i64 x.sz) (.string x.nm) (.slice x.na x.ns.length x.nc) (.slice x.ad x.ks.length x.cap)))
    clear HE2 hx6 hjq hxb
    go_wp2_with fail
    obtain ⟨r0, r1, r2, r3, r4, r5, r6⟩ := HP.out
    refine bodyPost_ret (v := .tuple #[x.val, .int .i64 q.2, .int .i64 0]) (by simp [results, Tryz.results8, go_sem, r0, r1, r2, r3, r4, r5, r6]) rfl ?_
    unfold FnP
    exact ⟨x, by rw [HY.out], by rw [HY.out]; exact hxb2, HI2.out.more HBl.out.size, HBl.out⟩
end Go.Proofs.YtlifnabeilnblaaGreatDoor
