/- Walk: the law TypesParts. -/
import Derived.Test.YtlifnabeilnblaaGreatDoorPt
import Derived.Test.YtlifnabeilnblaaGreatDoorKw
import Derived.Test.YtlifnabeilnblaaGreatDoorRe
import Derived.Test.YtlifnabeilnblaaGreatDoorShelf
namespace Go.Proofs.YtlifnabeilnblaaGreatDoor
open Go.RowKit Go.Sort
set_option linter.unusedVariables false

theorem cutL_at : ∀ (l : List UInt8) (i : Nat), l[i]? = some 46 → (∀ j, i < j → l[j]? ≠ some 46) → cutL l = l.take i := by
  intro l
  induction l with
  | nil => intro i h; simp at h
  | cons b l ih =>
    intro i h hn
    cases i with
    | zero =>
      rw [cutL, if_neg]; rfl
      intro hm
      obtain ⟨j, hj, he⟩ := List.getElem_of_mem hm
      exact hn (j + 1) (by omega) (by rw [List.getElem?_cons_succ, List.getElem?_eq_getElem hj, he])
    | succ i =>
      rw [List.getElem?_cons_succ] at h
      rw [cutL, if_pos (List.mem_of_getElem? h), List.take_succ_cons, ih i h fun j hj => by
        have := hn (j + 1) (by omega)
        rwa [List.getElem?_cons_succ] at this]
theorem cutL_no : ∀ (l : List UInt8), (∀ j : Nat, l[j]? ≠ some 46) → cutL l = [] := by
  intro l h
  cases l with
  | nil => rfl
  | cons b l =>
    rw [cutL, if_neg]
    intro hm
    obtain ⟨j, hj, he⟩ := List.getElem_of_mem hm
    exact h (j + 1) (by rw [List.getElem?_cons_succ, List.getElem?_eq_getElem hj, he])
theorem occ1 (l : List UInt8) (i : Nat) : Lib.occAt l [46] i = decide (l[i]? = some 46) := by
  unfold Lib.occAt
  rw [← List.head?_drop]
  cases l.drop i with
  | nil => rfl
  | cons b m =>
    by_cases h : b = 46
    · subst h; simp
    · have h2 : ¬ (46 : UInt8) = b := fun e => h e.symm
      simp [List.isPrefixOf, h, h2]
/-- where the last name begins -/
theorem last_cut (l : List UInt8) : ∃ z : Nat, (Lib.lastIndex l [46] = (z : Int) ∨ (Lib.lastIndex l [46] = -1 ∧ z = 0)) ∧ z ≤ l.length ∧ cutL l = l.take z := by
  unfold Lib.lastIndex
  by_cases h0 : ([46] : List UInt8).length ≤ l.length
  · rw [if_pos h0]
    rcases Lib.lastOcc_spec l [46] (l.length - ([46] : List UInt8).length + 1) with ⟨e, hn⟩ | ⟨i, hi, e, hc, hn⟩
    · refine ⟨0, .inr ⟨e, rfl⟩, by omega, ?_⟩
      rw [List.take_zero]
      refine cutL_no l fun j hj => ?_
      have hjl := (List.getElem?_eq_some_iff.1 hj).1
      have := hn j (by simp at h0 ⊢; omega)
      rw [occ1, hj] at this
      simp at this
    · refine ⟨i, .inl e, by simp at h0 hi; omega, ?_⟩
      rw [occ1] at hc
      refine cutL_at l i (by simpa using hc) fun j hj hl => ?_
      have hjl := (List.getElem?_eq_some_iff.1 hl).1
      have := hn j hj (by simp at h0 ⊢; omega)
      rw [occ1, hl] at this
      simp at this
  · rw [if_neg h0]
    have : l = [] := List.eq_nil_of_length_eq_zero (by simp at h0; exact h0 ▸ rfl)
    subst this
    exact ⟨0, .inr ⟨rfl, rfl⟩, Nat.zero_le _, rfl⟩
/-- what the search gives at the path of a scalar -/
theorem fn_leaf {e : G} (hc : G.chkT nmB e = 0) {i : Nat} {s : Sl} (h : (G.scal e ⟨#[]⟩)[i]? = some s) :
    ∃ k : G, fnT e s.path = (k.bare, (i : Int), 0) ∧ (k.kd = 0 ∨ k.kd = 1) ∧ leafS k s.path = s := by
  obtain ⟨t, ht, _, h1, _⟩ := G.parts e (G.Vd.of_chkT hc) (G.good_chk hc) ⟨#[]⟩ i s h
  have ht' : bs s.path = t := ht
  subst ht'
  obtain ⟨k, hk, h2, h3⟩ := h1 (bs s.path).length 0 (Nat.le_refl _)
  refine ⟨k, ?_, h2, h3⟩
  unfold fnT
  rw [if_neg (by rw [hc]; simp), hk]
  simp
/-- .. at the path of what it is in -/
theorem fn_part {e : G} (hc : G.chkT nmB e = 0) {j : Nat} {s : Sl} (h : (G.scal e ⟨#[]⟩)[j]? = some s) {pp : ByteArray} (hp : bs pp = cutL (bs s.path)) :
    ∃ (x : G) (n : Nat), fnT e pp = (x.bare, (n : Int), 0) ∧ G.chkT nmB x = 0 ∧ 1 ≤ (G.scal x ⟨#[]⟩).length ∧ n + (G.scal x ⟨#[]⟩).length ≤ (G.scal e ⟨#[]⟩).length ∧
      ∀ (i : Nat) (s' : Sl), (G.scal x ⟨#[]⟩)[i]? = some s' → (G.scal e ⟨#[]⟩)[n + i]? = some (G.pre pp s') := by
  obtain ⟨t, ht, _, _, x, n, h1, hV, h2⟩ := G.parts e (G.Vd.of_chkT hc) (G.good_chk hc) ⟨#[]⟩ j s h
  have ht' : bs s.path = t := ht
  subst ht'
  have hl := G.scal_len x hV.mal hV.out hV.nam hV.cnt ⟨#[]⟩
  have hl1 := (G.nodes_cnt x hV.mal hV.out hV.nam hV.cnt).1
  have h3 : ∀ (i : Nat) (s' : Sl), (G.scal x ⟨#[]⟩)[i]? = some s' → (G.scal e ⟨#[]⟩)[n + i]? = some (G.pre pp s') := fun i s' hi => by
    refine h2 (pp ++ ⟨#[]⟩) (by rw [G.bs_app, hp]; simp [bs]) i _ ?_
    rw [G.scal_pre x hV.mal hV.nam, List.getElem?_map, hi]; rfl
  have h4 : n + (G.scal x ⟨#[]⟩).length ≤ (G.scal e ⟨#[]⟩).length := by
    have hi : (G.scal x ⟨#[]⟩).length - 1 < (G.scal x ⟨#[]⟩).length := by omega
    have := h3 _ _ (List.getElem?_eq_getElem hi)
    have := (List.getElem?_eq_some_iff.1 this).1
    omega
  refine ⟨x, n, ?_, hV.chkT, by omega, h4, h3⟩
  unfold fnT
  rw [if_neg (by rw [hc]; simp), hp, h1 _ 0 (Nat.le_refl _)]
  simp
theorem lf_x {x k : G} {s : Sl} {p : ByteArray} (hb : x.bare = k.bare) (hk : k.kd = 0 ∨ k.kd = 1) (hs : leafS k p = s) :
    (x.kd = 0 ∧ s.bool = true) ∨ (x.kd = 1 ∧ s.bool = false ∧ x.lo = s.lo ∧ x.hi = s.hi) := by
  have e1 : x.kd = k.kd := by rw [← G.bare_kd, hb, G.bare_kd]
  have e2 : x.lo = k.lo := by rw [← G.bare_lo, hb, G.bare_lo]
  have e3 : x.hi = k.hi := by rw [← G.bare_hi, hb, G.bare_hi]
  subst hs
  rw [e1, e2, e3]
  unfold leafS
  rcases hk with h | h
  · rw [if_pos h]; exact .inl ⟨h, rfl⟩
  · rw [if_neg (by omega)]; exact .inr ⟨h, rfl, rfl, rfl⟩
theorem scalR_bare {x k : G} (hb : x.bare = k.bare) (hc : G.chkT nmB k = 0) : G.scalR nmB x = (G.scal k ⟨#[]⟩, 0) := by
  have h1 : G.chkT nmB x = 0 := by
    have v := (G.Vd.of_chkT hc).bare
    rw [← hb] at v
    exact v.of_bare.chkT
  unfold G.scalR
  rw [if_neg (by rw [h1]; simp), ← G.scal_bare x, hb, G.scal_bare]
theorem scal_path (e : G) : Vl e → ∀ p, ∀ s ∈ G.scal e p, s.path.size ≤ p.size + 13 * e.dep := by
  induction e using G.ind with
  | h e ih =>
    intro hV p s hs
    have f := (G.mal_iff e).1 (G.any_self hV.mal)
    have hn := G.any_self hV.nam
    unfold G.isName at hn
    have hk4 : e.kd ≠ 4 := by simpa using hn
    have h0 := f.k0
    have h5 := f.k5
    by_cases hk : e.kd = 0 ∨ e.kd = 1
    · rw [G.scal_leaf e p hk] at hs
      simp only [List.mem_singleton] at hs
      subst hs
      split <;> exact Nat.le_add_right _ _
    · rw [G.scal_comps e p (by omega) (by omega)] at hs
      obtain ⟨c, hc, hsc⟩ := List.mem_flatMap.1 hs
      obtain ⟨h1, h2⟩ := G.comp_ok hV hc
      have h3 := ih c.2 h1 (hV.kid h1) _ s hsc
      rw [jn_size] at h3
      have := G.comp_dep hc
      omega
theorem u8_nat {z : Int} (h : (Lit.int .u8 z).wf = true) : ∃ n : Nat, n ≤ 255 ∧ z = (n : Int) := by
  have : 0 ≤ z ∧ z ≤ 255 := by simpa [Lit.wf, IntKind.min, IntKind.max, IntKind.signed, IntKind.bits] using h
  exact ⟨z.toNat, by omega, by omega⟩
/-- what the law knows of its world -/
structure PtI (w wr : World) (e : G) (A : Option Addr) (l : List Sl) : Prop where
  be : Eb w wr e
  row : Row wr wr.heap.size A (flatS l)
theorem PtI.below {w wr w' : World} {e : G} {A : Option Addr} {l : List Sl} (h : PtI w wr e A l) (hb : Below wr.heap.size wr w') : PtI w w' e A l :=
  ⟨h.be.below hb, (h.row.below hb).more hb.size⟩
set_option maxRecDepth 100000 in
set_option maxHeartbeats 4000000 in
theorem parts_walk (e : G) (u : Nat) (w : World) (he : G.In w w.heap.size e) (hu : u ≤ 255) (hT : Tb w.heap.size w) :
    Calls Tryz.prog 4 #[e.val, .int .u8 (u : Int)] w fun r w' => r = .returned (.bool true) ∧ Below w.heap.size w w' := by
  have X := Eb.start w e 26
  have HT := Lib.hid (fun W (i : Below w.heap.size w W) => hT.at i)
  have F1 := Lib.hid (fun W (i : Eb w W e) => few_any e W (he.at i.bel))
  have S1 := Lib.hid (fun W (i : Eb w W e) => scalars_any e W (he.at i.bel) (hT.at i.bel))
  have C1 := Lib.hid (fun W (i : Eb w W e) => tcheck_any e W (he.at i.bel) (hT.at i.bel))
  have X1 := Lib.hid (fun (p : ByteArray) (hp : p.size ≤ 9223372036854775807) W (i : Eb w W e) => find_any e p W (he.at i.bel) (hT.at i.bel) hp)
  have HE : Hid (G.scalR nmB e = if G.chkT nmB e ≠ 0 then ([], G.chkT nmB e) else (G.scal e ⟨#[]⟩, 0)) := Lib.hid rfl
  have HLF := Lib.hid (fun (hc : G.chkT nmB e = 0) => And.intro (fun (i : Nat) (s : Sl) (h : (G.scal e ⟨#[]⟩)[i]? = some s) => fn_leaf hc h) (fun (j : Nat) (s : Sl) (h : (G.scal e ⟨#[]⟩)[j]? = some s) (pp : ByteArray) (hp : bs pp = cutL (bs s.path)) => fn_part hc h hp))
  have HLN := Lib.hid (fun (hc : G.chkT nmB e = 0) => show 1 ≤ (G.scal e ⟨#[]⟩).length ∧ (G.scal e ⟨#[]⟩).length ≤ 32 from by
    have V := G.Vd.of_chkT hc
    have h1 := G.scal_len e V.mal V.out V.nam V.cnt ⟨#[]⟩
    have h2 := (G.nodes_cnt e V.mal V.out V.nam V.cnt).1
    have h3 := V.cnt
    omega)
  have HPS := Lib.hid (fun (hc : G.chkT nmB e = 0) (i : Nat) (s : Sl) (h : (G.scal e ⟨#[]⟩)[i]? = some s) => show s.path.size ≤ 1000000 from by
    have V := G.Vd.of_chkT hc
    have h2 := scal_path e ⟨V.mal, V.mis, V.out, V.nam⟩ ⟨#[]⟩ s (List.mem_of_getElem? h)
    have h3 := V.dep
    have h4 : (⟨#[]⟩ : ByteArray).size = 0 := rfl
    omega)
  obtain ⟨c, hc⟩ : ∃ c, Hid (G.chkT nmB e = c) := ⟨_, Lib.hid rfl⟩
  obtain ⟨y, hy⟩ : ∃ y, Hid (G.scalR nmB e = y) := ⟨_, Lib.hid rfl⟩
  obtain ⟨l, hl⟩ : ∃ l, Hid (G.scal e ⟨#[]⟩ = l) := ⟨_, Lib.hid rfl⟩
  rw [hc.out] at C1 HE HLF HLN HPS
  rw [hy.out] at S1 HE
  rw [hl.out] at HE HLF HLN HPS
  unfold NewSl at S1
  unfold FnP at X1
  clear he hT hc hy hl
  go_enter Tryz.func4, Tryz.ntmps4
  go_upto_region 1 with (fail)
  revert X
  generalize w.alloc (.cells #[.int .i64 e.kd, .int .i64 e.lo, .int .i64 e.hi, .int .i64 e.sz, .string e.nm, .slice e.na e.ns.length e.nc, .slice e.ad e.ks.length e.cap] 26) = w1
  intro X
  go_wp2_with fail
  refine (known_any _ (HT.out _ X.bel)).mono ?_
  rintro r w2 ⟨rfl, b2⟩
  replace X := X.below b2
  clear b2
  obtain ⟨k0, k1, k2, k3, k4, k5, k6⟩ := box_cells X.be
  cases h1 : fewB e with
  | false =>
    rw [h1] at F1
    clear h1
    go_wp2_with fail
    refine (F1.out _ X).mono ?_
    rintro r w4 ⟨rfl, b4⟩
    have b5 := (X.below b4).bel
    go_wp2_with fail
    go_ret
    exact ⟨rfl, b5⟩
  | true =>
    rw [h1] at F1
    clear h1
    go_wp2_with fail
    refine (F1.out _ X).mono ?_
    rintro r w4 ⟨rfl, b4⟩
    replace X := X.below b4
    clear b4 F1 k0 k1 k2 k3 k4 k5 k6
    obtain ⟨k0, k1, k2, k3, k4, k5, k6⟩ := box_cells X.be
    go_wp2_with fail
    refine (S1.out _ X).mono ?_
    rintro r w5 ⟨A, cap, rfl, hr1, b5⟩
    replace X := X.below b5
    clear S1 k0 k1 k2 k3 k4 k5 k6 b5
    by_cases h0 : c = 0
    case neg =>
      have q0 : (c != 0) = true := by simpa using h0
      have HY : Hid (y = ([], c)) := Lib.hid (by rw [HE.out, if_pos h0])
      have hy2 : y.2 = c := by rw [HY.out]
      have C2 := Lib.hid (C1.out _ X)
      have bw := X.bel
      obtain ⟨k0, k1, k2, k3, k4, k5, k6⟩ := box_cells X.be
      rw [hy2]
      clear HE HLF HLN h0 C1 hr1 X1 hy2 HPS
      go_wp2_with fail
      refine C2.out.mono ?_
      rintro r w6 ⟨rfl, b6⟩
      have b7 := bTrans bw b6
      go_wp2_with fail
      go_ret
      exact ⟨rfl, b7⟩
    have HY : Hid (y = (l, 0)) := Lib.hid (by rw [HE.out, if_neg (by rw [h0]; simp)])
    have hy1 : y.1 = l := by rw [HY.out]
    have hy2 : y.2 = 0 := by rw [HY.out]
    obtain ⟨HL1, HL2⟩ := HLF.out h0
    obtain ⟨hln1, hln2⟩ := HLN.out h0
    have HP := Lib.hid (HPS.out h0)
    rw [hy1] at hr1 ⊢
    rw [hy2]
    obtain ⟨n, hn⟩ : ∃ n, Hid (l.length = n) := ⟨_, Lib.hid rfl⟩
    rw [hn.out] at hln1 hln2 HL2 ⊢
    have HA := Lib.hid HL1
    have HB := Lib.hid HL2
    have Y : PtI w w5 e A l := ⟨X, hr1.row⟩
    have hne : Hid (n ≠ 0) := Lib.hid (by omega)
    have q1 : ((n : Int) == 0) = false := by simp; omega
    clear HE HLF HLN h0 C1 hr1 hy1 hy2 HY HL1 HL2 X HPS
    go_wp2_with fail
    go_loopw [7, 8, 9, 10, 11, 47] (fun v7 v8 v9 v10 v11 iv wr => ∃ i : Nat, i ≤ n ∧ iv = .int .i64 i ∧ PtI w wr e A l) (fun _ _ _ _ _ iv _ => n - (intOf iv).toNat)
    case atStart => exact ⟨0, Nat.zero_le _, rfl, Y⟩
    case round =>
      clear Y
      obtain ⟨i, hi, rfl, Y⟩ := hrel
      by_cases hlt : i < n
      · obtain ⟨b, off, s, rfl, hb, hsi, d0, d1, d2, d3⟩ := sl_at Y.row (show i < l.length by rw [hn.out]; exact hlt)
        have b6 := al1 wr (.cells (sBox s) 39)
        have B8 := Blk.new_ wr (sBox s) 39
        have Y6 := Y.below b6
        go_upto_region 11 with (fail)
        clear d0 d1 d2 d3 Y
        revert b6 B8 Y6
        generalize wr.alloc (.cells #[.string s.path, .bool s.bool, .int .i64 s.lo, .int .i64 s.hi] 39) = w6
        intro b6 B8 Y6
        obtain ⟨k, hf, hk, hs⟩ := HA.out i s hsi
        have hps : s.path.size ≤ 9223372036854775807 := by have := HP.out i s hsi; omega
        have C := X1.out s.path hps _ Y6.be
        rw [hf] at C
        dsimp only at C
        have CC := Lib.hid C
        obtain ⟨k0, k1, k2, k3, k4, k5, k6⟩ := box_cells Y6.be.be
        have m0 := B8.c 0 rfl
        clear C hf hps hsi
        go_wp2_with fail
        refine CC.out.mono ?_
        rintro r w7 ⟨x, rfl, hxb, hx, b7⟩
        have b8 := bTrans b7 (al1 w7 (.cells x.box 26))
        have BX := Blk.new_ w7 x.box 26
        have B9 := B8.below b8 B8.lt
        have Y8 := Y6.below b8
        clear k0 k1 k2 k3 k4 k5 k6 m0 CC hx b7 b8 Y6 B8 b6
        go_upto_region 12 with (fail)
        revert BX B9 Y8
        generalize w7.alloc (.cells #[.int .i64 x.kd, .int .i64 x.lo, .int .i64 x.hi, .int .i64 x.sz, .string x.nm, .slice x.na x.ns.length x.nc, .slice x.ad x.ks.length x.cap] 26) = w8
        intro BX B9 Y8
        obtain ⟨n0, n1, n2, n3, n4, n5, n6⟩ := box_cells BX
        have m1 : w8.cell? ⟨wr.heap.size, 1, none⟩ = some (.bool s.bool) := B9.c 1 rfl
        have m2 : w8.cell? ⟨wr.heap.size, 2, none⟩ = some (.int .i64 s.lo) := B9.c 2 rfl
        have m3 : w8.cell? ⟨wr.heap.size, 3, none⟩ = some (.int .i64 s.hi) := B9.c 3 rfl
        rcases lf_x hxb hk hs with ⟨hx0, hs0⟩ | ⟨hx0, hs0, hx1, hx2⟩
        · rw [hx0] at n0
          rw [hs0] at m1
          clear hx0 hs0 hxb hk hs BX B9
          go_wp2_with fail
          go_roundw
          case rel => exact ⟨i + 1, by omega, by go_num, Y8⟩
          case measure => simp [intOf]; omega
        · rw [hx0] at n0
          rw [hs0] at m1
          rw [hx1] at n1
          rw [hx2] at n2
          clear hx0 hs0 hx1 hx2 hxb hk hs BX B9
          go_wp2_with fail
          go_roundw
          case rel => exact ⟨i + 1, by omega, by go_num, Y8⟩
          case measure => simp [intOf]; omega
      · obtain rfl : i = n := by omega
        have f1 : ((u : Int)).tmod (i : Int) = ((u % i : Nat) : Int) := (Int.ofNat_tmod u i).symm
        have hki : u % i < i := Nat.mod_lt _ (by omega)
        obtain ⟨k, hk⟩ : ∃ k, Hid (u % i = k) := ⟨_, Lib.hid rfl⟩
        rw [hk.out] at f1 hki
        obtain ⟨b, off, s, rfl, hb, hsi, d0, d1, d2, d3⟩ := sl_at Y.row (show k < l.length by rw [hn.out]; exact hki)
        obtain ⟨z, hz1, hz2, hz3⟩ := last_cut (bs s.path)
        have hps : s.path.size ≤ 1000000 := HP.out k s hsi
        have HLI := Lib.hid (fun W => show Calls Tryz.prog 12 #[.string s.path, .string ⟨#[46]⟩] W fun e w' => e = .returned (.int .i64 (Lib.lastIndex (bs s.path) [46])) ∧ w' = W from Tryz.strings_LastIndex s.path ⟨#[46]⟩ (by omega) W)
        have hzs : z ≤ s.path.size := by rw [bs_length] at hz2; exact hz2
        have HZ := Lib.hid hz3
        clear d1 d2 d3 HA hk hz2 hz3
        go_wp2_with fail
        refine (HLI.out _).mono ?_
        rintro r w2 ⟨rfl, rfl⟩
        clear d0 HLI
        obtain ⟨v, hv⟩ : ∃ v, Hid (Lib.lastIndex (bs s.path) [46] = v) := ⟨_, Lib.hid rfl⟩
        rw [hv.out] at hz1 ⊢
        have hm : max 0 v = (z : Int) := by omega
        have hv1 : -1 ≤ v := by omega
        have hv2 : v ≤ 1000000 := by omega
        have HPP0 := Lib.hid (show bs (s.path.extract 0 z) = cutL (bs s.path) from by rw [bs_extract, HZ.out, List.drop_zero])
        have hpz0 : (s.path.extract 0 z).size ≤ s.path.size := by rw [← bs_length, ← bs_length, bs_extract]; simp; omega
        clear hz1 HZ hv
        go_upto_region 17 with (fail)
        revert HPP0 hpz0
        generalize s.path.extract 0 z = pp
        intro HPP hpz
        have hpsz : pp.size ≤ 1000000 := by have := hpz; omega
        obtain ⟨x0, n0, hf, hcx, hm1, hmn, hsub⟩ := HB.out k s hsi pp HPP.out
        have C := X1.out pp (by omega) _ Y.be
        rw [hf] at C
        dsimp only at C
        have CC := Lib.hid C
        obtain ⟨k0, k1, k2, k3, k4, k5, k6⟩ := box_cells Y.be.be
        clear C hf HB X1 hsi HPP hps hpz
        go_wp2_with fail
        refine CC.out.mono ?_
        rintro r w3 ⟨x, rfl, hxb, hx, b3⟩
        have b4 := bTrans b3 (al1 w3 (.cells x.box 26))
        have BX := Blk.new_ w3 x.box 26
        have hxi := hx.at (al1 w3 (.cells x.box 26))
        have Y4 := Y.below b4
        have hsc := scalR_bare hxb hcx
        clear k0 k1 k2 k3 k4 k5 k6 CC hx b3 b4 Y hxb hcx
        go_upto_region 18 with (fail)
        revert BX hxi Y4
        generalize w3.alloc (.cells #[.int .i64 x.kd, .int .i64 x.lo, .int .i64 x.hi, .int .i64 x.sz, .string x.nm, .slice x.na x.ns.length x.nc, .slice x.ad x.ks.length x.cap] 26) = w4
        intro BX hxi Y4
        have D := scalars_any x _ hxi (HT.out _ Y4.be.bel)
        rw [hsc] at D
        unfold NewSl at D
        dsimp only at D
        obtain ⟨m, hm⟩ : ∃ m, Hid (G.scal x0 ⟨#[]⟩ = m) := ⟨_, Lib.hid rfl⟩
        rw [hm.out] at D hm1 hmn hsub
        obtain ⟨q, hq⟩ : ∃ q, Hid (m.length = q) := ⟨_, Lib.hid rfl⟩
        rw [hq.out] at D hm1 hmn
        have DD := Lib.hid D
        have HS := Lib.hid hsub
        obtain ⟨n0_, n1, n2, n3, n4, n5, n6⟩ := box_cells BX
        clear D hsub hsc hm hxi BX HT
        go_wp2_with fail
        refine DD.out.mono ?_
        rintro r w5 ⟨A2, c2, rfl, hr2, b5⟩
        have R2 := hr2.row
        have Y5 := Y4.below b5
        have e1 : IntKind.i64.wrap ((i : Int) - (n0 : Int)) = (i : Int) - (n0 : Int) := IntWalk.i64_in _ (by omega)
        clear n0_ n1 n2 n3 n4 n5 n6 DD hr2 b5 Y4
        go_wp2_with fail
        go_loopw [18, 19, 153] (fun v18 v19 iv wr => ∃ j : Nat, j ≤ q ∧ iv = .int .i64 j ∧ PtI w wr e (some ⟨b, off, none⟩) l ∧ Row wr wr.heap.size A2 (flatS m)) (fun _ _ iv _ => q - (intOf iv).toNat)
        case atStart => exact ⟨0, Nat.zero_le _, rfl, Y5, R2⟩
        case round =>
          clear Y5 R2
          obtain ⟨j, hj, rfl, Y, R⟩ := hrel
          by_cases hjq : j < q
          · obtain ⟨b2, off2, s2, rfl, hb2, hs2, e0, e1, e2, e3⟩ := sl_at R (show j < m.length by rw [hq.out]; exact hjq)
            have hl2 := HS.out j s2 hs2
            have hp2 : (pp ++ s2.path).size ≤ 1000000 := HP.out _ _ hl2
            have hp3 : pp.size + s2.path.size ≤ 1000000 := by rw [ByteArray.size_append] at hp2; exact hp2
            have hc1 : (9223372036854775807 < pp.size + s2.path.size) = False := by simp; omega
            have b7 := al1 wr (.cells #[.string (pp ++ s2.path), .bool s2.bool, .int .i64 s2.lo, .int .i64 s2.hi] 39)
            have B7 := Blk.new_ wr #[.string (pp ++ s2.path), .bool s2.bool, .int .i64 s2.lo, .int .i64 s2.hi] 39
            have B8 := Blk.new_ wr (sBox s2) 39
            have m0 : (wr.alloc (.cells (sBox s2) 39)).cell? ⟨wr.heap.size, 0, none⟩ = some (.string s2.path) := B8.c 0 rfl
            have mf := B8.fr 0
            go_upto_region 25 with (fail)
            clear m0 mf B8 e0 e1 e2 e3
            revert b7 B7
            generalize wr.alloc (.cells #[.string (pp ++ s2.path), .bool s2.bool, .int .i64 s2.lo, .int .i64 s2.hi] 39) = w7
            intro b7 B7
            have Y7 := Y.below b7
            have R7 := (R.below b7).more b7.size
            obtain ⟨t, ht⟩ : ∃ t, Hid (n0 + j = t) := ⟨_, Lib.hid rfl⟩
            have htl : t < i := by have := ht.out; omega
            have e5 : IntKind.i64.wrap ((n0 : Int) + (j : Int)) = (t : Int) := by
              rw [IntWalk.i64_in _ (by omega), ← ht.out]; push_cast; rfl
            rw [ht.out] at hl2
            obtain ⟨b', off', s', hA', hb', hsi', g⟩ := sl_at Y7.row (show t < l.length by rw [hn.out]; exact htl)
            obtain ⟨rfl, rfl⟩ : b = b' ∧ off = off' := by simpa using hA'
            obtain rfl : s' = G.pre pp s2 := Option.some.inj (hsi'.symm.trans hl2)
            have g0 : w7.cell? ⟨b, off + t * 4, none⟩ = some (.string (pp ++ s2.path)) := g.c0
            have g1 : w7.cell? ⟨b, off + t * 4 + 1, none⟩ = some (.bool s2.bool) := g.c1
            have g2 : w7.cell? ⟨b, off + t * 4 + 2, none⟩ = some (.int .i64 s2.lo) := g.c2
            have g3 : w7.cell? ⟨b, off + t * 4 + 3, none⟩ = some (.int .i64 s2.hi) := g.c3
            have m0 := B7.c 0 rfl
            have m1 := B7.c 1 rfl
            have m2 := B7.c 2 rfl
            have m3 := B7.c 3 rfl
            clear b7 B7 Y R hA' hsi' g hl2 hp2 hp3 hc1 hs2 ht
            go_quiet (fail)
            go_wp2_with fail
            go_roundw
            case rel => exact ⟨j + 1, by omega, by go_num, Y7.below (bDrew (Below.refl _ _) _), (R7.below (bDrew (Below.refl _ _) _)).more (Nat.le_refl _)⟩
            case measure => simp [intOf]; omega
          · obtain rfl : j = q := by omega
            have bw := Y.be.bel
            go_wp2_with fail
            go_ret
            exact ⟨rfl, bw⟩
end Go.Proofs.YtlifnabeilnblaaGreatDoor
