/- Walks: number of the reference of types. -/
import Derived.Test.YtlpnbcdnlbghdaaGreatDoorCe
import Derived.Test.YtlpnbcdnlbghdaaGreatDoorSl
import Derived.Test.YtlpnbcdnlbghdaaGreatDoorVa
import Derived.Deep.AppendLies
import Derived.Test.YtlpnbcdnlbghdaaGreatDoorRi
import Derived.Test.YtlpnbcdnlbghdaaGreatDoorKl
namespace Go.Proofs.YtlpnbcdnlbghdaaGreatDoor
open Go.RowKit Go.Sort
set_option linter.unusedVariables false

theorem quiet_of_drew {P : Program} {f : FuncId} {args : Array Value} {w : World} {n : Nat} {v : Value}
    (h : Calls P f args (w.drewN n) fun e w' => e = .returned v ∧ ∃ q, w' = (w.drewN n).drewN q) : Calls P f args (w.drewN n) fun e w'' => e = .returned v ∧ ∃ m, w'' = w.drewN m :=
  h.mono fun _ _ ⟨he, q, hm⟩ => ⟨he, n + q, by rw [hm, World.drewN_drewN]⟩
theorem num_piece : ∀ n : Fin 10, (⟨#[48, 49, 50, 51, 52, 53, 54, 55, 56, 57]⟩ : ByteArray).extract n.1 (n.1 + 1) = num n.1 := by decide +kernel
theorem num_two : ∀ n : Fin 100, ¬ n.1 < 10 → num (n.1 / 10) ++ num (n.1 % 10) = num n.1 := by decide +kernel
theorem num_len : ∀ n : Fin 100, (num n.1).size ≤ 2 := by decide +kernel
set_option maxRecDepth 100000 in
set_option maxHeartbeats 1000000 in
theorem rnum_step (n : Nat) (hn : n < 100) (HR : 10 ≤ n → ∀ W : World, Calls Tryz.prog 87 #[.int .i64 ((n / 10 : Nat) : Int)] W fun e w' => e = .returned (.string (num (n / 10))) ∧ ∃ q, w' = W.drewN q) (w : World) :
    Calls Tryz.prog 87 #[.int .i64 (n : Int)] w fun e w' => e = .returned (.string (num n)) ∧ ∃ q, w' = w.drewN q := by
  by_cases h : n < 10
  · have hI : (n : Int) < 10 := by omega
    have hp := num_piece ⟨n, h⟩
    dsimp only at hp
    clear HR
    obtain ⟨t, ht⟩ : ∃ t, num n = t := ⟨_, rfl⟩
    rw [ht] at hp ⊢
    clear ht
    go_enter Tryz.func87, Tryz.ntmps87
    go_wp2_with fail
    go_ret
    exact ⟨rfl, 0, rfl⟩
  · have hI : ¬ (n : Int) < 10 := by omega
    have HI := Lib.hid (HR (by omega))
    have hd := num_two ⟨n, hn⟩ h
    have hp := num_piece ⟨n % 10, by omega⟩
    have hl1 := num_len ⟨n / 10, by omega⟩
    have hl2 := num_len ⟨n % 10, by omega⟩
    dsimp only at hp hd hl1 hl2
    have hq1 : (n : Int).tdiv 10 = ((n / 10 : Nat) : Int) := (Int.ofNat_tdiv n 10).symm
    have hq2 : (n : Int).tmod 10 = ((n % 10 : Nat) : Int) := (Int.ofNat_tmod n 10).symm
    have hm : n % 10 < 10 := by omega
    have ha : n / 10 ≤ 4096 := by omega
    clear HR h
    revert HI hd hq1 hq2 hp hm ha hl1 hl2
    generalize num (n / 10) = s1
    generalize num (n % 10) = s2
    generalize num n = s3
    generalize n / 10 = a
    generalize n % 10 = b
    intro HI hd hp hl1 hl2 hq1 hq2 hm ha
    have HD := Lib.hid hd
    clear hd
    go_enter Tryz.func87, Tryz.ntmps87
    go_wp2_with fail
    go_quiet ((go_at_call 87; exact quiet_of_drew (HI.out _)))
    go_wp2_with fail
    go_ret
    exact ⟨by rw [← HD.out] <;> rfl, nq, rfl⟩
/-- the reference's number, below 100 -/
theorem rnumber_any (n : Nat) (hn : n < 100) (w : World) : Calls Tryz.prog 87 #[.int .i64 (n : Int)] w fun e w' => e = .returned (.string (num n)) ∧ Below w.heap.size w w' := by
  have h0 : ∀ k : Nat, k < 10 → ∀ W : World, Calls Tryz.prog 87 #[.int .i64 (k : Int)] W fun e w' => e = .returned (.string (num k)) ∧ ∃ q, w' = W.drewN q := fun k hk W => rnum_step k (by omega) (fun h => absurd h (by omega)) W
  exact (rnum_step n hn (fun _ => h0 (n / 10) (by omega)) w).mono fun e w' ⟨he, q, hq⟩ => ⟨he, by
    rw [hq]
    exact ⟨rfl, rfl, rfl, Nat.le_refl _, fun _ _ => rfl⟩⟩
end Go.Proofs.YtlpnbcdnlbghdaaGreatDoor
/- Walks: scalars of the reference of types. -/
namespace Go.Proofs.YtlpnbcdnlbghdaaGreatDoor
open Go.RowKit Go.Sort
set_option linter.unusedVariables false

theorem jn_app (p n : ByteArray) : p ++ (⟨#[46]⟩ : ByteArray) ++ n = jn p n := by
  apply bs_inj
  unfold jn
  rw [bs_mk]
  show (p ++ (⟨#[46]⟩ : ByteArray) ++ n).data.toList = _
  rw [ByteArray.data_append, ByteArray.data_append]
  simp [bs]
theorem flatS_app (a b : List Sl) : flatS (a ++ b) = flatS a ++ flatS b := by unfold flatS; rw [List.flatMap_append]
theorem flatS_len (l : List Sl) : (flatS l).length = l.length * 4 := flatLen sCells 4 (fun _ => rfl) l
theorem flatS_one (l : List Sl) : ∀ u ∈ flatS l, u.oneCell' = true := fun u hu => by
  unfold flatS at hu
  obtain ⟨s, _, hs⟩ := List.mem_flatMap.1 hu
  exact scal_one s u hs
theorem own_mono {w : World} {base base' e z : Nat} {v : Value} {n : Nat} {xs : List Value} (h : w.ownsRow base e z v n xs) (hb : base' ≤ base) : w.ownsRow base' e z v n xs := by
  refine ⟨h.1, ?_⟩
  rcases h.2 with h2 | ⟨g, cap, cur, hv, hg, r⟩
  · exact .inl h2
  · exact .inr ⟨g, cap, cur, hv, Nat.le_trans hb hg, r⟩
/-- a type has scalars -/
theorem scal_pos (e : G) : Vl e → ∀ p, 1 ≤ (G.scal e p).length := by
  induction e using G.ind with
  | h e ih =>
    intro hV p
    have f := (G.mal_iff e).1 (G.any_self hV.mal)
    have hnm := G.any_self hV.nam
    unfold G.isName at hnm
    have h4 : e.kd ≠ 4 := by simpa using hnm
    have h0 := f.k0
    have h5 := f.k5
    by_cases h : e.kd = 0 ∨ e.kd = 1
    · rw [G.scal_leaf e p h]; simp
    · rw [G.scal_comps e p (by omega) (by omega)]
      have hne : G.comps e ≠ [] := by
        have ho := G.any_self hV.out
        unfold G.comps
        by_cases h2 : e.kd = 2
        · rw [if_pos h2]
          have h1 := f.ar h2
          unfold G.out G.inr at ho
          rw [h2] at ho
          simp at ho
          unfold G.comps2
          cases hks : e.ks with
          | nil => rw [hks] at h1; simp at h1
          | cons a b => intro hc; have := congrArg List.length hc; simp at this; omega
        · have h3 : e.kd = 3 := by omega
          rw [if_neg h2, if_pos h3]
          have hr := f.rc h3
          intro hc
          have hl := congrArg List.length hc
          rw [List.length_zip, List.length_nil] at hl
          omega
      cases hc : G.comps e with
      | nil => exact absurd hc hne
      | cons c l =>
        have hck := (G.comp_ok hV (c := c) (by rw [hc]; simp)).1
        have := ih c.2 hck (hV.kid hck) (jn p c.1)
        rw [List.flatMap_cons, List.length_append]
        omega
/-- the world in the loops of scalars -/
structure RlI (w wr : World) (e : G) (v : Value) (l : List Sl) (n : Nat) : Prop where
  be : Blk wr w.heap.size e.box
  own : wr.ownsRow (w.heap.size + 1) 56 4 v n (flatS l)
  len : l.length = n
  bel : Below w.heap.size w wr
theorem RlI.below {w wr w' : World} {e : G} {v : Value} {l : List Sl} {n : Nat} (h : RlI w wr e v l n) (hb : Below wr.heap.size wr w') : RlI w w' e v l n :=
  ⟨h.be.below hb h.be.lt, h.own.kept (row := none) (grown_of_below hb none) (by cases hv : v.ownBlock <;> simp), h.len, bTrans h.bel hb⟩
theorem RlI.next {w wr w8 : World} {e : G} {v v' : Value} {l ls : List Sl} {n m : Nat} (h : RlI w wr e v l n)
    (ho : w8.ownsRow (w.heap.size + 1) 56 4 v' (n + m) (flatS l ++ flatS ls)) (hm : ls.length = m) (hg : wr.grownBy w8 v.ownBlock) : RlI w w8 e v' (l ++ ls) (n + m) :=
  ⟨h.be.grown hg (fun e => by have := (h.own.lt _ e.symm).1; omega), by rw [flatS_app]; exact ho, by rw [List.length_append, h.len, hm], h.bel.grown hg h.bel.size (fun k e => by have := (h.own.lt k e).1; omega)⟩
/-- a call hands back a row of scalars of its own, not empty -/
def NewS (l : List Sl) (w : World) (r : Ending) (w' : World) : Prop := ∃ g c, r = .returned (.slice (some ⟨g, 0, none⟩) l.length c) ∧ w'.ownsRow w.heap.size 56 4 (.slice (some ⟨g, 0, none⟩) l.length c) l.length (flatS l) ∧ Below w.heap.size w w'
/-- the contract of the reference's scalars -/
def RsE (e : G) : Prop := ∀ (p : ByteArray) (w : World), G.In w w.heap.size e → p.size + 13 * e.dep ≤ 1000 → Vl e → (G.scal e p).length ≤ 1000 → Calls Tryz.prog 56 #[e.val, .string p] w (NewS (G.scal e p) w)
set_option maxRecDepth 100000 in
set_option maxHeartbeats 4000000 in
theorem rscal_leaf (e : G) (hk : e.kd = 0 ∨ e.kd = 1) : RsE e := by
  intro p w hin hp hV hn
  obtain ⟨i0, hi0, hz0, hz1, hz2⟩ := info_parts infoScal
  have HSc := Lib.hid (show G.scal e p = [leafS e p] from G.scal_leaf e p hk)
  have X := Eb.start w e 26
  rw [HSc.out]
  clear hin hp hV hn HSc
  rcases hk with h0 | h0
  · have HV : leafS e p = ⟨p, true, 0, 1⟩ := by unfold leafS; rw [if_pos h0]
    rw [HV]
    have H0 := Lib.hid h0
    clear HV h0
    go_enter Tryz.func56, Tryz.ntmps56
    go_upto_region 2 with (fail)
    revert X
    generalize w.alloc (.cells #[.int .i64 e.kd, .int .i64 e.lo, .int .i64 e.hi, .int .i64 e.sz, .string e.nm, .slice e.na e.ns.length e.nc, .slice e.ad e.ks.length e.cap] 26) = w1
    intro X
    obtain ⟨k0, k1, k2, k3, k4, k5, k6⟩ := box_cells X.be
    rw [H0.out] at k0
    have hz := X.bel.size
    have hb := X.bel
    have hlt := X.be.lt
    go_wp2_with (at_builtin; refine wpList_append_lies _ rfl _ _ 49 rfl (w.heap.size + 1) 56 i0 (.agg #[.string ⟨#[]⟩, .bool false, .int .i64 0, .int .i64 0]) 4 40 Tryz.underlying49 hi0 hz0 hz1 hz2 rfl (by decide) (.slice none 0 0) 0 [] rfl (World.ownsRow_nil _ _ _ _) ⟨w1.heap.size, 0, none⟩ 1 1 (sCells ⟨p, true, 0, 1⟩) rfl rfl (scal_cells w1 ⟨p, true, 0, 1⟩ 56) (scal_one _) (by decide) (by unfold maxLen; omega) (by omega) (by rw [World.size_alloc]; omega) _ rfl ?_; intro g cap w8 hown8 hgrow hat hlt8)
    have HO := Lib.hid hown8
    have B8 := (hb.alloc hz (.cells (sBox ⟨p, true, 0, 1⟩) 56)).grown hgrow (by rw [World.size_alloc]; omega) (fun k e => by simp [Value.ownBlock] at e)
    clear hown8 hgrow hat k0 k1 k2 k3 k4 k5 k6
    go_wp2_with fail
    go_ret
    exact ⟨g, cap, rfl, by have := own_mono (base' := w.heap.size) HO.out (by omega); simpa [flatS] using this, B8⟩
  · have HV : leafS e p = ⟨p, false, e.lo, e.hi⟩ := by unfold leafS; rw [if_neg (by omega)]
    rw [HV]
    have H0 := Lib.hid h0
    clear HV h0
    go_enter Tryz.func56, Tryz.ntmps56
    go_upto_region 2 with (fail)
    revert X
    generalize w.alloc (.cells #[.int .i64 e.kd, .int .i64 e.lo, .int .i64 e.hi, .int .i64 e.sz, .string e.nm, .slice e.na e.ns.length e.nc, .slice e.ad e.ks.length e.cap] 26) = w1
    intro X
    obtain ⟨k0, k1, k2, k3, k4, k5, k6⟩ := box_cells X.be
    rw [H0.out] at k0
    have hz := X.bel.size
    have hb := X.bel
    have hlt := X.be.lt
    go_wp2_with (at_builtin; refine wpList_append_lies _ rfl _ _ 49 rfl (w.heap.size + 1) 56 i0 (.agg #[.string ⟨#[]⟩, .bool false, .int .i64 0, .int .i64 0]) 4 40 Tryz.underlying49 hi0 hz0 hz1 hz2 rfl (by decide) (.slice none 0 0) 0 [] rfl (World.ownsRow_nil _ _ _ _) ⟨w1.heap.size, 0, none⟩ 1 1 (sCells ⟨p, false, e.lo, e.hi⟩) rfl rfl (scal_cells w1 ⟨p, false, e.lo, e.hi⟩ 56) (scal_one _) (by decide) (by unfold maxLen; omega) (by omega) (by rw [World.size_alloc]; omega) _ rfl ?_; intro g cap w8 hown8 hgrow hat hlt8)
    have HO := Lib.hid hown8
    have B8 := (hb.alloc hz (.cells (sBox ⟨p, false, e.lo, e.hi⟩) 56)).grown hgrow (by rw [World.size_alloc]; omega) (fun k e => by simp [Value.ownBlock] at e)
    clear hown8 hgrow hat k0 k1 k2 k3 k4 k5 k6
    go_wp2_with fail
    go_ret
    exact ⟨g, cap, rfl, by have := own_mono (base' := w.heap.size) HO.out (by omega); simpa [flatS] using this, B8⟩
set_option maxRecDepth 100000 in
set_option maxHeartbeats 4000000 in
theorem rscal_array (e : G) (h2 : e.kd = 2) (ih : ∀ k ∈ e.ks, RsE k) : RsE e := by
  intro p w hin hp hV hn
  obtain ⟨i0, hi0, hz0, hz1, hz2⟩ := info_parts infoScal
  have hl := hin.l
  have f := (G.mal_iff e).1 (G.any_self hV.mal)
  have ho := G.any_self hV.out
  have hpos := scal_pos e hV p
  unfold G.out G.inr at ho
  rw [Bool.not_eq_false', Bool.and_eq_true, Bool.and_eq_true] at ho
  have hs := ho.1.2
  rw [h2] at hs
  simp at hs
  have hk1 := f.ar h2
  obtain ⟨s, hse⟩ : ∃ s : Nat, Hid (e.sz = (s : Int)) := ⟨e.sz.toNat, Lib.hid (by omega)⟩
  have hs1 : s ≤ 32 := by have := hse.out; omega
  obtain ⟨A, hA⟩ : ∃ A, Hid (e.ad = A) := ⟨_, Lib.hid rfl⟩
  rw [hA.out] at hl
  have X : RlI w (w.alloc (.cells e.box 26)) e (.slice none 0 0) [] 0 := ⟨Blk.new_ _ _ _, World.ownsRow_nil _ _ _ _, rfl, al1 _ _⟩
  obtain ⟨ab, off, k, hA2, hab, -, his, hkin⟩ := hl.at_ (show 0 < e.ks.length by omega)
  have HD := Lib.hid (fun (W : World) (hb : Below w.heap.size w W) => by
    obtain ⟨ab', off', k', hA3, hab', hel, his', _⟩ := (hl.below hb).at_ (show 0 < e.ks.length by omega)
    rw [Nat.zero_mul, Nat.add_zero] at hel
    have h1 := G.is_inj his' his
    subst h1
    have h3 : ab' = ab ∧ off' = off := by have := hA3.symm.trans hA2; simpa using this
    rw [h3.1, h3.2] at hel
    exact hel)
  have hkm := his.mem
  have hks : e.ks = [k] := by
    obtain ⟨h0, hk0⟩ := his.eq
    cases hks : e.ks with
    | nil => rw [hks] at h0; simp at h0
    | cons a l =>
      simp only [hks, List.getElem_cons_zero] at hk0
      subst hk0
      rw [hks] at hk1
      have : l = [] := List.eq_nil_of_length_eq_zero (by simpa using hk1)
      rw [this]
  have HL : Hid (G.scal e p = (List.range s).flatMap fun i => G.scal k (jn p (num i))) := Lib.hid (by
    rw [G.scal_two e p h2, hse.out, Int.toNat_natCast, hks]; rfl)
  have HI := Lib.hid (fun (i : Nat) (hi : i < s) (W : World) (hb : Below w.heap.size w W) => ih k hkm (jn p (num i)) W ((hkin.below hb).more hb.size) (by
    rw [jn_size]
    have h1 := num_size i
    have h2 : k.dep + 1 ≤ e.dep := by have := G.depL_mem hkm; rw [G.dep_eq e]; omega
    omega) (hV.kid hkm) (by
    have h1 := fm_len (fun i => G.scal k (jn p (num i))) (List.range s) (i := i) (c := i) (by rw [List.getElem?_range hi])
    rw [← HL.out] at h1
    omega))
  have HP := Lib.hid (fun q => scal_pos k (hV.kid hkm) q)
  have HTk := Lib.hid (fun (i : Nat) (hi : i < s) => show ((List.range i).flatMap fun i => G.scal k (jn p (num i))).length + (G.scal k (jn p (num i))).length ≤ 1000 from by
    have h1 := fm_len (fun i => G.scal k (jn p (num i))) (List.range s) (i := i) (c := i) (by rw [List.getElem?_range hi])
    rw [← HL.out, List.take_range] at h1
    rw [Nat.min_eq_left (by omega)] at h1
    omega)
  have hadI := Lib.hid (show e.ad = some ⟨ab, off, none⟩ from hA.out.trans hA2)
  have hlen := Lib.hid hk1
  have hps : p.size ≤ 1000 := by omega
  have HK2 := Lib.hid h2
  have hseq2 := Lib.hid hse.out
  clear hs ho f h2 hl hA2 hab his hkin hse hin ih hV hks hkm hk1 hp hn
  go_enter Tryz.func56, Tryz.ntmps56
  go_upto_region 2 with (fail)
  revert X
  generalize w.alloc (.cells #[.int .i64 e.kd, .int .i64 e.lo, .int .i64 e.hi, .int .i64 e.sz, .string e.nm, .slice e.na e.ns.length e.nc, .slice e.ad e.ks.length e.cap] 26) = w1
  intro X
  obtain ⟨k0, k1, k2, k3, k4, k5, k6⟩ := box_cells X.be
  rw [HK2.out] at k0
  go_wp2_with fail
  clear k0 k1 k2 k3 k4 k5 k6
  go_loopw [5, 6] (fun lv iv wr => ∃ (i : Nat), i ≤ s ∧ iv = .int .i64 i ∧ ∃ (l : List Sl) (n : Nat), Hid (l = (List.range i).flatMap fun i => G.scal k (jn p (num i))) ∧ RlI w wr e lv l n) (fun _ iv _ => s - (intOf iv).toNat)
  case atStart => exact ⟨0, Nat.zero_le _, rfl, [], 0, Lib.hid rfl, X⟩
  case round =>
    clear X
    obtain ⟨i, hi, rfl, l, n, hls, Y⟩ := hrel
    obtain ⟨A', c', rfl⟩ := own_slice_ Y.own
    have k3 := (box_cells Y.be).2.2.2.1
    rw [hseq2.out] at k3
    by_cases hlt : i < s
    · have Yd := Y.below (show Below wr.heap.size wr wr.drew from (Below.refl _ _).drew)
      obtain ⟨d0, d1, d2, d3, d4, d5, d6⟩ := HD.out _ Yd.bel
      have k6 := (box_cells Yd.be).2.2.2.2.2.2
      rw [hadI.out, hlen.out] at k6
      have hnl := Y.len
      have hT := HTk.out i hlt
      rw [← hls.out, hnl] at hT
      have hnum := Lib.hid (fun W => rnumber_any i (by omega) W)
      have HS0 := HI.out i hlt
      rw [← jn_app] at HS0
      have hm0 := HP.out (jn p (num i))
      obtain ⟨ls, hls2⟩ : ∃ ls, Hid (G.scal k (jn p (num i)) = ls) := ⟨_, Lib.hid rfl⟩
      have HLN : Hid (l ++ ls = (List.range (i + 1)).flatMap fun i => G.scal k (jn p (num i))) := Lib.hid (by rw [List.range_succ, List.flatMap_append, ← hls.out, ← hls2.out]; simp)
      rw [jn_app, hls2.out, ← jn_app] at HS0
      rw [hls2.out] at hT hm0
      have hnz := num_size i
      obtain ⟨nm, hnm⟩ : ∃ nm, Hid (num i = nm) := ⟨_, Lib.hid rfl⟩
      rw [hnm.out] at HS0 hnum hnz
      obtain ⟨m, hm⟩ : ∃ m, Hid (ls.length = m) := ⟨_, Lib.hid rfl⟩
      unfold NewS at HS0
      rw [hm.out] at HS0 hT hm0
      have HS := Lib.hid HS0
      have hfl : (flatS ls).length = m * 4 := by rw [flatS_len, hm.out]
      have hone := flatS_one ls
      have hc1 : (9223372036854775807 < p.size + 1) = False := by simp; omega
      have hc2 : (9223372036854775807 < p.size + 1 + nm.size) = False := by simp; omega
      clear hls hnm hls2 HS0 hnl
      go_wp2_with fail
      go_region_law (first
        | (refine step_append_lies _ (by rfl) _ _ 49 (by rfl) (w.heap.size + 1) 56 i0 (.agg #[.string ⟨#[]⟩, .bool false, .int .i64 0, .int .i64 0]) 4 40 Tryz.underlying49 hi0 hz0 hz1 hz2 (by decide) (by decide) _ _ _ (by rfl) Y5.own ⟨g5, 0, none⟩ m c5 (flatS ls) (by rfl) hfl (o5.cells rfl) hone hm0 (by unfold maxLen; omega) (by omega) (by have := Y5.be.lt; omega) _ rfl ?_; intro g cap w8 hown8 hgrow hat hlt8; have Y8 := Y5.next hown8 hm.out hgrow)
        | (go_simp; go_at_call 87; refine (hnum.out _).mono ?_; rintro r w3 ⟨rfl, b3⟩; have Y3 := Yd.below b3; obtain ⟨x0, x1, x2, x3, x4, x5, x6⟩ := HD.out _ Y3.bel; have x7 := (box_cells Y3.be).2.2.2.2.2.2; rw [hadI.out, hlen.out] at x7)
        | (go_simp; go_at_call 56; refine (HS.out _ Y3.bel).mono ?_; rintro r w5 ⟨g5, c5, rfl, o5, b5⟩; have Y5 := Y3.below b5))
      all_goals
        clear hown8 hgrow hat Yd Y Y3 Y5 o5 b5 b3 HS hnum d0 d1 d2 d3 d4 d5 d6 k6 k3 hfl hone
        go_wp2_with fail
        go_roundw
        case rel => exact ⟨i + 1, by omega, by go_num, l ++ ls, n + m, HLN, Y8⟩
        case measure => simp [intOf]; omega
    · obtain rfl : i = s := by omega
      have hle : n = (G.scal e p).length := by rw [← Y.len, hls.out, HL.out]
      have hle2 := hls.out.trans HL.out.symm
      obtain ⟨g, cap, hv, -, -⟩ := Y.own.form (by omega)
      have HO := own_mono (base' := w.heap.size) Y.own (by omega)
      have b2 := Y.bel
      rw [hv] at HO ⊢
      rw [hle2, hle] at HO
      have HO2 := Lib.hid HO
      have HE : Hid (Ending.returned (.slice (some ⟨g, 0, none⟩) n cap) = Ending.returned (.slice (some ⟨g, 0, none⟩) (G.scal e p).length cap)) := Lib.hid (by rw [← hle])
      clear HO hle hle2 hv hls
      go_wp2_with fail
      go_ret
      exact ⟨g, cap, HE.out, HO2.out, b2⟩
set_option maxRecDepth 100000 in
set_option maxHeartbeats 4000000 in
theorem rscal_record (e : G) (h3 : e.kd = 3) (ih : ∀ k ∈ e.ks, RsE k) : RsE e := by
  intro p w hin hp hV hn
  obtain ⟨i0, hi0, hz0, hz1, hz2⟩ := info_parts infoScal
  have hl := hin.l
  have hnd := hin.nd
  have f := (G.mal_iff e).1 (G.any_self hV.mal)
  have ho := G.any_self hV.out
  have hpos := scal_pos e hV p
  unfold G.out G.inr at ho
  rw [Bool.not_eq_false', Bool.and_eq_true, Bool.and_eq_true] at ho
  have hs := ho.2
  rw [h3] at hs
  simp at hs
  have hrc := (f.rc h3).2
  obtain ⟨A, hA⟩ : ∃ A, Hid (e.ad = A) := ⟨_, Lib.hid rfl⟩
  rw [hA.out] at hl
  obtain ⟨NA, hNA⟩ : ∃ A, Hid (e.na = A) := ⟨_, Lib.hid rfl⟩
  have X : RlI w (w.alloc (.cells e.box 26)) e (.slice none 0 0) [] 0 := ⟨Blk.new_ _ _ _, World.ownsRow_nil _ _ _ _, rfl, al1 _ _⟩
  obtain ⟨zs, hzs⟩ : ∃ zs, Hid (e.ns.zip e.ks = zs) := ⟨_, Lib.hid rfl⟩
  have hzl : zs.length = e.ks.length := by rw [← hzs.out, List.length_zip]; omega
  have HL : Hid (G.scal e p = zs.flatMap fun c => G.scal c.2 (jn p c.1)) := Lib.hid (by rw [G.scal_three e p h3, G.scalL_zip, hzs.out])
  have hcm : ∀ c ∈ zs, c.2 ∈ e.ks ∧ c.1.size ≤ 12 := fun c hc => G.comp_ok hV (by unfold G.comps; rw [if_neg (by omega), if_pos h3, hzs.out]; exact hc)
  have HI := Lib.hid (fun (i : Nat) (c : ByteArray × G) (hc : zs[i]? = some c) (W : World) (hb : Below w.heap.size w W) => ih c.2 (hcm c (List.mem_of_getElem? hc)).1 (jn p c.1) W (((G.inL_iff.1 hin.kids c.2 (hcm c (List.mem_of_getElem? hc)).1).below hb).more hb.size) (by
    rw [jn_size]
    have hck := hcm c (List.mem_of_getElem? hc)
    have h2 : c.2.dep + 1 ≤ e.dep := by have := G.depL_mem hck.1; rw [G.dep_eq e]; omega
    omega) (hV.kid (hcm c (List.mem_of_getElem? hc)).1) (by
    have h1 := fm_len (fun c => G.scal c.2 (jn p c.1)) zs hc
    rw [← HL.out] at h1
    omega))
  have HP := Lib.hid (fun (i : Nat) (c : ByteArray × G) (hc : zs[i]? = some c) => And.intro (scal_pos c.2 (hV.kid (hcm c (List.mem_of_getElem? hc)).1) (jn p c.1)) (hcm c (List.mem_of_getElem? hc)).2)
  have HTk := Lib.hid (fun (i : Nat) (c : ByteArray × G) (hc : zs[i]? = some c) => show ((zs.take i).flatMap fun c => G.scal c.2 (jn p c.1)).length + (G.scal c.2 (jn p c.1)).length ≤ 1000 from by
    have h1 := fm_len (fun c => G.scal c.2 (jn p c.1)) zs hc
    rw [← HL.out] at h1
    omega)
  obtain ⟨nn, hnn⟩ : ∃ n, Hid (e.ks.length = n) := ⟨_, Lib.hid rfl⟩
  have hnn2 : Hid (e.ns.length = nn) := Lib.hid (by rw [← hrc, hnn.out])
  have hn32 : nn ≤ 32 := by rw [← hnn.out]; exact hs
  have hps : p.size ≤ 1000 := by omega
  rw [hnn.out] at hzl
  have HK2 := Lib.hid h3
  clear hs ho f h3 hin ih hV hp hn hrc hcm
  go_enter Tryz.func56, Tryz.ntmps56
  go_upto_region 2 with (fail)
  revert X
  generalize w.alloc (.cells #[.int .i64 e.kd, .int .i64 e.lo, .int .i64 e.hi, .int .i64 e.sz, .string e.nm, .slice e.na e.ns.length e.nc, .slice e.ad e.ks.length e.cap] 26) = w1
  intro X
  obtain ⟨k0, k1, k2, k3, k4, k5, k6⟩ := box_cells X.be
  rw [HK2.out] at k0
  go_wp2_with fail
  clear k0 k1 k2 k3 k4 k5 k6
  go_loopw [5, 7] (fun lv iv wr => ∃ (i : Nat), i ≤ nn ∧ iv = .int .i64 i ∧ ∃ (l : List Sl) (n : Nat), Hid (l = (zs.take i).flatMap fun c => G.scal c.2 (jn p c.1)) ∧ RlI w wr e lv l n) (fun _ iv _ => nn - (intOf iv).toNat)
  case atStart => exact ⟨0, Nat.zero_le _, rfl, [], 0, Lib.hid (by simp), X⟩
  case round =>
    clear X
    obtain ⟨i, hi, rfl, l, n, hls, Y⟩ := hrel
    obtain ⟨A', c', rfl⟩ := own_slice_ Y.own
    have u6 := (box_cells Y.be).2.2.2.2.2.2
    rw [hA.out, hnn.out] at u6
    by_cases hlt : i < nn
    · have Yd := Y.below (show Below wr.heap.size wr wr.drew from (Below.refl _ _).drew)
      have hlt1 : i < e.ks.length := by rw [hnn.out]; exact hlt
      have hlt2 : i < e.ns.length := by rw [hnn2.out]; exact hlt
      obtain ⟨ab, off, k, rfl, hab, ⟨d0, d1, d2, d3, d4, d5, d6⟩, his, hkin⟩ := (hl.below Yd.bel).at_ hlt1
      obtain ⟨nb, no, hN2, hnb, hnc⟩ := (hnd.below Yd.bel).name_at hlt2
      obtain rfl : NA = some ⟨nb, no, none⟩ := hNA.out.symm.trans hN2
      have hzi0 : ∀ s, s = e.ns[i] → zs[i]? = some (s, k) := fun s hs => by
        have hz : i < (e.ns.zip e.ks).length := by rw [List.length_zip]; omega
        rw [← hzs.out, List.getElem?_eq_getElem hz, List.getElem_zip, hs]
        obtain ⟨h0, hk0⟩ := his.eq
        rw [hk0]
      revert hnc hzi0
      generalize e.ns[i] = s
      intro hnc hzi0
      have hzi := hzi0 s rfl
      have k5 := (box_cells Yd.be).2.2.2.2.2.1
      have k6 := (box_cells Yd.be).2.2.2.2.2.2
      rw [hA.out, hnn.out] at k6
      rw [hNA.out, hnn2.out] at k5
      have hnl := Y.len
      have hT := HTk.out i _ hzi
      rw [← hls.out, hnl] at hT
      obtain ⟨hm0, hs12⟩ := HP.out i _ hzi
      have HS0 := HI.out i _ hzi
      have hft := fm_take (fun c => G.scal c.2 (jn p c.1)) zs hzi
      rw [← jn_app] at HS0
      dsimp only at HS0 hm0 hs12 hT hft
      obtain ⟨ls, hls2⟩ : ∃ ls, Hid (G.scal k (jn p s) = ls) := ⟨_, Lib.hid rfl⟩
      have HLN : Hid (l ++ ls = (zs.take (i + 1)).flatMap fun c => G.scal c.2 (jn p c.1)) := Lib.hid (by rw [hft, ← hls.out, hls2.out])
      rw [jn_app, hls2.out, ← jn_app] at HS0
      rw [hls2.out] at hT hm0
      obtain ⟨m, hm⟩ : ∃ m, Hid (ls.length = m) := ⟨_, Lib.hid rfl⟩
      unfold NewS at HS0
      rw [hm.out] at HS0 hT hm0
      have HS := Lib.hid HS0
      have hfl : (flatS ls).length = m * 4 := by rw [flatS_len, hm.out]
      have hone := flatS_one ls
      have hc1 : (9223372036854775807 < p.size + 1) = False := by simp; omega
      have hc2 : (9223372036854775807 < p.size + 1 + s.size) = False := by simp; omega
      clear hls hls2 HS0 hnl hft hzi hzi0 hN2 his hkin
      go_wp2_with fail
      go_region_law (first
        | (refine step_append_lies _ (by rfl) _ _ 49 (by rfl) (w.heap.size + 1) 56 i0 (.agg #[.string ⟨#[]⟩, .bool false, .int .i64 0, .int .i64 0]) 4 40 Tryz.underlying49 hi0 hz0 hz1 hz2 (by decide) (by decide) _ _ _ (by rfl) Y5.own ⟨g5, 0, none⟩ m c5 (flatS ls) (by rfl) hfl (o5.cells rfl) hone hm0 (by unfold maxLen; omega) (by omega) (by have := Y5.be.lt; omega) _ rfl ?_; intro g cap w8 hown8 hgrow hat hlt8; have Y8 := Y5.next hown8 hm.out hgrow)
        | (go_simp; go_at_call 56; refine (HS.out _ Yd.bel).mono ?_; rintro r w5 ⟨g5, c5, rfl, o5, b5⟩; have Y5 := Yd.below b5))
      all_goals
        clear hown8 hgrow hat Yd Y Y5 o5 b5 HS d0 d1 d2 d3 d4 d5 d6 k6 k5 u6 hnc hfl hone
        go_wp2_with fail
        go_roundw
        case rel => exact ⟨i + 1, by omega, by go_num, l ++ ls, n + m, HLN, Y8⟩
        case measure => simp [intOf]; omega
    · obtain rfl : i = nn := by omega
      have hle2 : l = G.scal e p := by rw [hls.out, HL.out, List.take_of_length_le (by omega)]
      have hle : n = (G.scal e p).length := by rw [← Y.len, hle2]
      obtain ⟨g, cap, hv, -, -⟩ := Y.own.form (by omega)
      have HO := own_mono (base' := w.heap.size) Y.own (by omega)
      have b2 := Y.bel
      rw [hv] at HO ⊢
      rw [hle2, hle] at HO
      have HO2 := Lib.hid HO
      have HE : Hid (Ending.returned (.slice (some ⟨g, 0, none⟩) n cap) = Ending.returned (.slice (some ⟨g, 0, none⟩) (G.scal e p).length cap)) := Lib.hid (by rw [← hle])
      clear HO hle hle2 hv hls
      go_wp2_with fail
      go_ret
      exact ⟨g, cap, HE.out, HO2.out, b2⟩
theorem rscal_any (e : G) : RsE e := by
  induction e using G.ind with
  | h e ih =>
    intro p w hin hp hV hn
    have f := (G.mal_iff e).1 (G.any_self hV.mal)
    have hnm := G.any_self hV.nam
    unfold G.isName at hnm
    have h4 : e.kd ≠ 4 := by simpa using hnm
    have h0 := f.k0
    have h5 := f.k5
    by_cases h : e.kd = 0 ∨ e.kd = 1
    · exact rscal_leaf e h p w hin hp hV hn
    · by_cases h2 : e.kd = 2
      · exact rscal_array e h2 ih p w hin hp hV hn
      · exact rscal_record e (by omega) ih p w hin hp hV hn
end Go.Proofs.YtlpnbcdnlbghdaaGreatDoor
/- Walks: Scalars, Values of the reference of types. -/
namespace Go.Proofs.YtlpnbcdnlbghdaaGreatDoor
open Go.RowKit Go.Sort
set_option linter.unusedVariables false

set_option maxRecDepth 100000 in
set_option maxHeartbeats 2000000 in
theorem rscalars_any (e : G) (w : World) (hin : G.In w w.heap.size e) (hn : e.nodes ≤ 1000000) : Calls Tryz.prog 23 #[e.val] w (NewSl (G.scalR nmB e) w) := by
  have X := Eb.start w e 26
  have C1 := Lib.hid (fun W (i : Eb w W e) => rcheck_any e W (hin.at i.bel) hn)
  have HR : Hid (G.scalR nmB e = if G.chkT nmB e ≠ 0 then ([], G.chkT nmB e) else (G.scal e ⟨#[]⟩, 0)) := Lib.hid rfl
  have HC := Lib.hid (fun (h : G.chkT nmB e = 0) W (i : Eb w W e) => by
    have V := G.Vd.of_chkT h
    refine rscal_any e ⟨#[]⟩ W (hin.at i.bel) (by have := V.dep; show 0 + 13 * e.dep ≤ 1000; omega) ⟨V.mal, V.mis, V.out, V.nam⟩ ?_
    have := G.scal_len e V.mal V.out V.nam V.cnt ⟨#[]⟩
    have := V.cnt
    omega)
  obtain ⟨y, hy⟩ : ∃ y, Hid (G.scalR nmB e = y) := ⟨_, Lib.hid rfl⟩
  obtain ⟨c, hc⟩ : ∃ c, Hid (G.chkT nmB e = c) := ⟨_, Lib.hid rfl⟩
  rw [hc.out] at C1 HR HC
  rw [hy.out] at HR ⊢
  clear hy hc hin
  go_enter Tryz.func23, Tryz.ntmps23
  go_upto_region 1 with (fail)
  revert X
  generalize w.alloc (.cells #[.int .i64 e.kd, .int .i64 e.lo, .int .i64 e.hi, .int .i64 e.sz, .string e.nm, .slice e.na e.ns.length e.nc, .slice e.ad e.ks.length e.cap] 26) = w1
  intro X
  obtain ⟨k0, k1, k2, k3, k4, k5, k6⟩ := box_cells X.be
  go_wp2_with fail
  refine (C1.out _ X).mono ?_
  rintro r w2 ⟨rfl, b2⟩
  replace X := X.below b2
  clear k0 k1 k2 k3 k4 k5 k6 b2 C1
  by_cases h0 : c = 0
  · have q0 : (c != 0) = false := by rw [h0]; rfl
    have HY : Hid (y = (G.scal e ⟨#[]⟩, 0)) := Lib.hid (by rw [HR.out, if_neg (by rw [h0]; simp)])
    have HC2 := Lib.hid (HC.out h0 _ X)
    clear HR h0 HC
    obtain ⟨k0, k1, k2, k3, k4, k5, k6⟩ := box_cells X.be
    go_wp2_with fail
    refine HC2.out.mono ?_
    rintro r w5 ⟨g, c', rfl, o5, b5⟩
    have hr := RowS.of_own o5 (by decide)
    have hsz := X.bel.size
    have b6 := bTrans X.bel b5
    have HV5 : Hid (Ending.returned (.tuple #[.slice (some ⟨g, 0, none⟩) (G.scal e ⟨#[]⟩).length c', .int .i64 0]) = Ending.returned (.tuple #[.slice (some ⟨g, 0, none⟩) y.1.length c', .int .i64 y.2])) := Lib.hid (by rw [HY.out])
    clear k0 k1 k2 k3 k4 k5 k6 HC2 o5
    go_wp2_with fail
    go_ret2
    exact ⟨some ⟨g, 0, none⟩, c', HV5.out, by rw [HY.out]; exact hr.keep (fun _ _ _ => rfl) (fun b hb _ => by show w.heap.size ≤ b; omega) (Nat.le_refl _), b6⟩
  · have q0 : (c != 0) = true := by simpa using h0
    have HY : Hid (y = ([], c)) := Lib.hid (by rw [HR.out, if_pos h0])
    have b2 := X.bel
    have HV5 : Hid (Ending.returned (.tuple #[.slice none 0 0, .int .i64 c]) = Ending.returned (.tuple #[.slice none y.1.length 0, .int .i64 y.2])) := Lib.hid (by rw [HY.out]; rfl)
    clear HR h0 HC
    go_wp2_with fail
    go_ret2
    exact ⟨none, 0, HV5.out, by rw [HY.out]; exact ⟨fun h => absurd h (by simp [flatS])⟩, b2⟩
set_option maxRecDepth 100000 in
set_option maxHeartbeats 2000000 in
theorem rvalues_any (e : G) (w : World) (hin : G.In w w.heap.size e) (hnod : e.nodes ≤ 1000000) :
    Calls Tryz.prog 25 #[e.val] w fun r w' => r = .returned (.tuple #[.int .i64 (G.valR nmB e).1, .int .i64 (G.valR nmB e).2]) ∧ Below w.heap.size w w' := by
  have X := Eb.start w e 26
  have C1 := Lib.hid (fun W (i : Eb w W e) => rscalars_any e W (hin.at i.bel) hnod)
  have HR : Hid (G.valR nmB e = if (G.scalR nmB e).2 ≠ 0 then (0, (G.scalR nmB e).2) else match G.valF (G.scalR nmB e).1 1 with | none => (0, 4) | some t => (t, 0)) := Lib.hid rfl
  obtain ⟨hlen, hok⟩ := G.scalR_ok (nmB := nmB) e
  obtain ⟨z, hz⟩ : ∃ z, Hid (G.valR nmB e = z) := ⟨_, Lib.hid rfl⟩
  obtain ⟨y, hy⟩ : ∃ y, Hid (G.scalR nmB e = y) := ⟨_, Lib.hid rfl⟩
  rw [hy.out] at C1 HR hlen hok
  rw [hz.out] at HR ⊢
  have HOK := Lib.hid hok
  obtain ⟨ys, c⟩ := y
  clear hz hy hin hok hnod
  go_enter Tryz.func25, Tryz.ntmps25
  go_upto_region 1 with (fail)
  revert X
  generalize w.alloc (.cells #[.int .i64 e.kd, .int .i64 e.lo, .int .i64 e.hi, .int .i64 e.sz, .string e.nm, .slice e.na e.ns.length e.nc, .slice e.ad e.ks.length e.cap] 26) = w1
  intro X
  obtain ⟨k0, k1, k2, k3, k4, k5, k6⟩ := box_cells X.be
  go_wp2_with fail
  refine (C1.out _ X).mono ?_
  rintro r w2 ⟨A, c', rfl, hr, b2⟩
  replace X := X.below b2
  have hrow := Lib.hid hr.row
  clear k0 k1 k2 k3 k4 k5 k6 b2 C1 hr
  have bl := X.bel
  clear X
  dsimp only at hlen hrow
  by_cases h0 : c = 0
  · have q0 : (c != 0) = false := by rw [h0]; rfl
    have HR2 : Hid (z = match G.valF ys 1 with | none => (0, 4) | some t => (t, 0)) := Lib.hid (by rw [HR.out, if_neg (by rw [h0]; simp)])
    obtain ⟨n, hn⟩ : ∃ n, Hid (ys.length = n) := ⟨_, Lib.hid rfl⟩
    rw [hn.out] at hlen
    have hlI : ys.length = n := hn.out
    clear HR h0
    go_wp2_with fail
    clear hlI
    go_loopw [6, 7] (fun tv iv wr => ∃ (i : Nat) (t : Int), i ≤ n ∧ iv = .int .i64 i ∧ tv = .int .i64 t ∧ Hid (G.valF ys 1 = G.valF (ys.drop i) t) ∧ 1 ≤ t ∧ t ≤ 1099511627776 ∧ Below w2.heap.size w2 wr) (fun _ iv _ => n - (intOf iv).toNat)
    case atStart => exact ⟨0, 1, Nat.zero_le _, rfl, rfl, Lib.hid rfl, by omega, by omega, Below.refl _ _⟩
    case round =>
      obtain ⟨i, t, hi, rfl, rfl, hv, ht1, ht2, Y⟩ := hrel
      have hlI2 : ((ys.length : Nat) : Int) = (n : Int) := by rw [hn.out]
      by_cases hlt : i < n
      · obtain ⟨b, off, s, rfl, hb, hsi, d0, d1, d2, d3⟩ := sl_at (hrow.out.below Y) (show i < ys.length by rw [hn.out]; exact hlt)
        have hs := HOK.out s (List.mem_of_getElem? hsi)
        have hdr := drop_cons_ hsi
        have HN : Hid (G.valF ys 1 = if 1099511627776 < t * (s.hi - s.lo + 1) then none else G.valF (ys.drop (i + 1)) (t * (s.hi - s.lo + 1))) := Lib.hid (by rw [hv.out, hdr]; rfl)
        unfold G.sOk at hs
        obtain ⟨sp, sb, lo, hi2⟩ := s
        dsimp only at d0 d1 d2 d3 hs HN
        obtain ⟨hs1, hs2, hs3⟩ := hs
        have hq : 1 ≤ hi2 - lo + 1 ∧ hi2 - lo + 1 ≤ 2097153 := by omega
        have e1 : IntKind.i64.wrap (hi2 - lo) = hi2 - lo := IntWalk.i64_in _ (by omega)
        have e2 : IntKind.i64.wrap (hi2 - lo + 1) = hi2 - lo + 1 := IntWalk.i64_in _ (by omega)
        obtain ⟨q, hqq⟩ : ∃ q, hi2 - lo + 1 = q := ⟨_, rfl⟩
        rw [hqq] at hq HN e2
        have hm1 : 1 ≤ t * q := by
          have := Int.mul_le_mul ht1 hq.1 (by decide) (by omega)
          omega
        have hm2 : t * q ≤ 1099511627776 * 2097153 := Int.mul_le_mul ht2 hq.2 (by omega) (by decide)
        obtain ⟨m, hm⟩ : ∃ m, t * q = m := ⟨_, rfl⟩
        rw [hm] at hm1 hm2 HN
        have e3 : IntKind.i64.wrap (t * q) = m := by rw [hm]; exact IntWalk.i64_in _ (by omega)
        have hmm := Lib.hid hm
        by_cases hgt : 1099511627776 < m
        · have HZ : Hid (z = (0, 4)) := Lib.hid (by
            have := HN.out
            rw [if_pos hgt] at this
            rw [HR2.out, this])
          have HZ2 := Lib.hid (show Ending.returned (.tuple #[.int .i64 0, .int .i64 4]) = Ending.returned (.tuple #[.int .i64 z.1, .int .i64 z.2]) by rw [HZ.out])
          clear HN hv hdr hsi hm hm1 hm2 hq HR2
          go_wp2_with fail
          go_quiet (fail)
          go_wp2_with fail
          go_ret2
          exact ⟨HZ2.out, bTrans bl (bDrew Y _)⟩
        · have HN2 : Hid (G.valF ys 1 = G.valF (ys.drop (i + 1)) m) := Lib.hid (by rw [HN.out, if_neg hgt])
          have hle : m ≤ 1099511627776 := by omega
          clear HN hv hdr hsi hm hm2 hq
          go_wp2_with fail
          go_quiet (fail)
          go_wp2_with fail
          go_roundw
          case rel => exact ⟨i + 1, m, by omega, by go_num, rfl, HN2, hm1, hle, bDrew Y _⟩
          case measure => simp [intOf]; omega
      · obtain rfl : i = n := by omega
        have HZ : Hid (z = (t, 0)) := Lib.hid (by
          have := hv.out
          rw [List.drop_of_length_le (by rw [hn.out]; exact Nat.le_refl _)] at this
          rw [HR2.out, this]; rfl)
        have HZ2 := Lib.hid (show Ending.returned (.tuple #[.int .i64 t, .int .i64 0]) = Ending.returned (.tuple #[.int .i64 z.1, .int .i64 z.2]) by rw [HZ.out])
        clear hv HR2
        go_wp2_with fail
        go_ret2
        exact ⟨HZ2.out, bTrans bl Y⟩
  · have q0 : (c != 0) = true := by simpa using h0
    have HZ : Hid (z = (0, c)) := Lib.hid (by rw [HR.out, if_pos h0])
    have HZ2 := Lib.hid (show Ending.returned (.tuple #[.int .i64 0, .int .i64 c]) = Ending.returned (.tuple #[.int .i64 z.1, .int .i64 z.2]) by rw [HZ.out])
    clear HR h0
    go_wp2_with fail
    go_ret2
    exact ⟨HZ2.out, bl⟩
end Go.Proofs.YtlpnbcdnlbghdaaGreatDoor
/- Walks: Contains, Clamp of the reference of types. -/
namespace Go.Proofs.YtlpnbcdnlbghdaaGreatDoor
open Go.RowKit Go.Sort
set_option linter.unusedVariables false

set_option maxRecDepth 100000 in
set_option maxHeartbeats 2000000 in
theorem rcontains_any (e : G) (zs : List Int) (ZA : Option Addr) (zc : Nat) (w : World) (hin : G.In w w.heap.size e) (hz : Zs w w.heap.size ZA zs) (hnod : e.nodes ≤ 1000000) :
    Calls Tryz.prog 33 #[e.val, .slice ZA zs.length zc] w fun r w' => r = .returned (.bool (conB (G.scalR nmB e) zs)) ∧ Below w.heap.size w w' := by
  have X := Eb.start w e 26
  have C1 := Lib.hid (fun W (i : Eb w W e) => rscalars_any e W (hin.at i.bel) hnod)
  obtain ⟨hlen, hok⟩ := G.scalR_ok (nmB := nmB) e
  obtain ⟨y, hy⟩ : ∃ y, Hid (G.scalR nmB e = y) := ⟨_, Lib.hid rfl⟩
  rw [hy.out] at C1 hlen ⊢
  obtain ⟨ys, c⟩ := y
  have HR : Hid (conB (ys, c) zs = (decide (c = 0) && decide (zs.length = ys.length) && allIn zs ys)) := Lib.hid rfl
  obtain ⟨q, hq⟩ : ∃ q, Hid (conB (ys, c) zs = q) := ⟨_, Lib.hid rfl⟩
  rw [hq.out] at HR ⊢
  have hzl := hz.len
  clear hy hq hin hok hnod
  go_enter Tryz.func33, Tryz.ntmps33
  go_upto_region 1 with (fail)
  revert X
  generalize w.alloc (.cells #[.int .i64 e.kd, .int .i64 e.lo, .int .i64 e.hi, .int .i64 e.sz, .string e.nm, .slice e.na e.ns.length e.nc, .slice e.ad e.ks.length e.cap] 26) = w1
  intro X
  obtain ⟨k0, k1, k2, k3, k4, k5, k6⟩ := box_cells X.be
  go_wp2_with fail
  refine (C1.out _ X).mono ?_
  rintro r w2 ⟨A, c', rfl, hr, b2⟩
  replace X := X.below b2
  have hrow := Lib.hid hr.row
  clear k0 k1 k2 k3 k4 k5 k6 b2 C1 hr
  have bl := X.bel
  have hz2 := hz.at bl
  clear X
  dsimp only at hlen hrow
  by_cases h0 : c = 0
  · have q0 : (c != 0) = false := by rw [h0]; rfl
    by_cases hll : zs.length = ys.length
    · have hlI : (((ys.length : Nat) : Int) != ((zs.length : Nat) : Int)) = false := by rw [hll]; simp
      have HR2 : Hid (q = allIn zs ys) := Lib.hid (by rw [HR.out, decide_eq_true h0, decide_eq_true hll]; rfl)
      obtain ⟨n, hn⟩ : ∃ n, Hid (ys.length = n) := ⟨_, Lib.hid rfl⟩
      have hn2 : Hid (zs.length = n) := Lib.hid (by rw [hll, hn.out])
      rw [hn.out] at hlen
      have hl1 := hn.out
      have hl2 := hn2.out
      clear HR h0 hll hlI hzl hz
      go_wp2_with fail
      clear hl1 hl2
      go_loopw [7] (fun iv wr => ∃ (i : Nat), i ≤ n ∧ iv = .int .i64 i ∧ Hid (∀ k, k < i → ∀ z s, zs[k]? = some z → ys[k]? = some s → inB z s = true) ∧ Below w2.heap.size w2 wr) (fun iv _ => n - (intOf iv).toNat)
      case atStart => exact ⟨0, Nat.zero_le _, rfl, Lib.hid (fun k hk => absurd hk (Nat.not_lt_zero _)), Below.refl _ _⟩
      case round =>
        obtain ⟨i, hi, rfl, hg, Y⟩ := hrel
        have hlI3 : ((ys.length : Nat) : Int) = (n : Int) := by rw [hn.out]
        by_cases hlt : i < n
        · obtain ⟨b, off, s, rfl, hb, hsi, d0, d1, d2, d3⟩ := sl_at (hrow.out.below Y) (show i < ys.length by rw [hn.out]; exact hlt)
          obtain ⟨zb, zoff, z, rfl, hzb, hzi, ez, hzI⟩ := (hz2.below Y).at_ (show i < zs.length by rw [hn2.out]; exact hlt)
          have HB := Lib.hid (fun h => allIn_bad hzi hsi h)
          have HG := Lib.hid (fun (h : inB z s = true) k (hk : k < i + 1) z' s' (h1 : zs[k]? = some z') (h2 : ys[k]? = some s') => show inB z' s' = true by
            by_cases hki : k = i
            · subst hki
              rw [hzi] at h1; rw [hsi] at h2
              cases h1; cases h2; exact h
            · exact hg.out k (by omega) z' s' h1 h2)
          obtain ⟨sp, sb, lo, hi2⟩ := s
          dsimp only at d0 d1 d2 d3
          have hinB : inB z ⟨sp, sb, lo, hi2⟩ = (decide (lo ≤ z) && decide (z ≤ hi2)) := rfl
          clear hsi hzi hg
          by_cases hlo : z < lo
          · have HQ : Hid (false = q) := Lib.hid (by rw [HR2.out, HB.out (by rw [hinB, decide_eq_false (by omega)]; rfl)])
            clear HB HG hinB HR2
            go_wp2_with fail
            go_quiet (fail)
            go_wp2_with fail
            go_ret
            exact ⟨ret_bool HQ.out, bTrans bl (bDrew Y _)⟩
          · by_cases hhi : hi2 < z
            · have HQ : Hid (false = q) := Lib.hid (by rw [HR2.out, HB.out (by rw [hinB, decide_eq_false (show ¬ z ≤ hi2 by omega), Bool.and_false])])
              clear HB HG hinB HR2
              go_wp2_with fail
              go_quiet (fail)
              go_wp2_with fail
              go_ret
              exact ⟨ret_bool HQ.out, bTrans bl (bDrew Y _)⟩
            · have HG2 := Lib.hid (HG.out (by rw [hinB, decide_eq_true (by omega), decide_eq_true (by omega)]; rfl))
              clear HB HG hinB
              go_wp2_with fail
              go_quiet (fail)
              go_wp2_with fail
              go_roundw
              case rel => exact ⟨i + 1, by omega, by go_num, HG2, bDrew Y _⟩
              case measure => simp [intOf]; omega
        · obtain rfl : i = n := by omega
          have HQ : Hid (true = q) := Lib.hid (by rw [HR2.out, allIn_good fun k hk => hg.out k (by rw [← hn.out]; exact hk)])
          go_wp2_with fail
          go_ret
          exact ⟨ret_bool HQ.out, bTrans bl Y⟩
    · have hlI : (((ys.length : Nat) : Int) != ((zs.length : Nat) : Int)) = true := by simp; omega
      have HQ : Hid (false = q) := Lib.hid (by rw [HR.out, decide_eq_false hll]; simp)
      clear HR h0 hll
      go_wp2_with fail
      go_ret
      exact ⟨ret_bool HQ.out, bl⟩
  · have q0 : (c != 0) = true := by simpa using h0
    have HQ : Hid (false = q) := Lib.hid (by rw [HR.out, decide_eq_false h0]; rfl)
    clear HR h0
    go_wp2_with fail
    go_ret
    exact ⟨ret_bool HQ.out, bl⟩
/-- the world in the loop of Clamp -/
structure RcI (w wr : World) (v : Value) (l : List Int) (n : Nat) : Prop where
  own : wr.ownsRow w.heap.size 3 1 v n (zvals l)
  len : l.length = n
  bel : Below w.heap.size w wr
theorem RcI.next {w wr w8 : World} {v v' : Value} {l : List Int} {n : Nat} {z : Int} {o : Obj} (h : RcI w wr v l n)
    (ho : w8.ownsRow w.heap.size 3 1 v' (n + 1) (zvals l ++ [.int .i64 z])) (hg : (wr.alloc o).grownBy w8 v.ownBlock) : RcI w w8 v' (l ++ [z]) (n + 1) :=
  ⟨by unfold zvals at ho ⊢; rw [List.map_append]; exact ho, by rw [List.length_append, h.len]; rfl, (h.bel.alloc h.bel.size o).grown hg (by rw [World.size_alloc]; have := h.bel.size; omega) (fun k e => by have := (h.own.lt k e).1; omega)⟩
theorem infoInt_ : (Tryz.prog.info? 3).map (fun i => (i.zero, i.size, i.bytes)) = some (some (.int .i64 0), 1, 8) := by kernel_rfl
theorem int_cells (w : World) (z : Int) (T : TypeId) : ∀ j u, [Value.int .i64 z][j]? = some u → (w.alloc (.cells #[.int .i64 z] T)).cell? ((⟨w.heap.size, 0, none⟩ : Addr).add j) = some u := fun j u hu => by
  rw [Go.WideShapes.add_plain, Nat.zero_add]
  exact (Blk.new_ w #[.int .i64 z] T).c j (by show [Value.int .i64 z].toArray[j]? = some u; simpa using hu)
theorem clL_take {zs : List Int} {ys : List Sl} {i : Nat} {z : Int} {s : Sl} (hz : zs[i]? = some z) (hs : ys[i]? = some s) : (clL zs ys).take (i + 1) = (clL zs ys).take i ++ [clZ z s] := by
  obtain ⟨h1, rfl⟩ := List.getElem?_eq_some_iff.1 hz
  obtain ⟨h2, rfl⟩ := List.getElem?_eq_some_iff.1 hs
  have h3 : i < (clL zs ys).length := by unfold clL; rw [List.length_zipWith]; omega
  unfold clL at h3 ⊢
  rw [List.take_succ_eq_append_getElem h3, List.getElem_zipWith]
theorem zs_own {w : World} {base : Nat} {A : Option Addr} {c : Nat} {l : List Int} (h : w.ownsRow base 3 1 (.slice A l.length c) l.length (zvals l)) (hn : l.length ≤ 1000000) (ha : ∀ z ∈ l, inI z) : Zs w w.heap.size A l :=
  ⟨(RowS.of_own h (by decide)).row, by omega, ha⟩
set_option maxRecDepth 100000 in
set_option maxHeartbeats 2000000 in
theorem rclamp_any (e : G) (zs : List Int) (ZA : Option Addr) (zc : Nat) (w : World) (hin : G.In w w.heap.size e) (hz : Zs w w.heap.size ZA zs) (hnod : e.nodes ≤ 1000000) :
    Calls Tryz.prog 31 #[e.val, .slice ZA zs.length zc] w (NewZc (clR (G.scalR nmB e) zs) w) := by
  have X := Eb.start w e 26
  have C1 := Lib.hid (fun W (i : Eb w W e) => rscalars_any e W (hin.at i.bel) hnod)
  obtain ⟨i0, hi0, hz0, hz1, hz2'⟩ := info_parts infoInt_
  obtain ⟨hlen, hok⟩ := G.scalR_ok (nmB := nmB) e
  obtain ⟨y, hy⟩ : ∃ y, Hid (G.scalR nmB e = y) := ⟨_, Lib.hid rfl⟩
  rw [hy.out] at C1 hlen hok ⊢
  have HOK := Lib.hid hok
  obtain ⟨ys, c⟩ := y
  have HR : Hid (clR (ys, c) zs = if c ≠ 0 then ([], c) else if zs.length ≠ ys.length then ([], 2) else (clL zs ys, 0)) := Lib.hid rfl
  obtain ⟨q, hq⟩ : ∃ q, Hid (clR (ys, c) zs = q) := ⟨_, Lib.hid rfl⟩
  rw [hq.out] at HR ⊢
  have hzl := hz.len
  clear hy hq hin hok hnod
  go_enter Tryz.func31, Tryz.ntmps31
  go_upto_region 1 with (fail)
  revert X
  generalize w.alloc (.cells #[.int .i64 e.kd, .int .i64 e.lo, .int .i64 e.hi, .int .i64 e.sz, .string e.nm, .slice e.na e.ns.length e.nc, .slice e.ad e.ks.length e.cap] 26) = w1
  intro X
  obtain ⟨k0, k1, k2, k3, k4, k5, k6⟩ := box_cells X.be
  go_wp2_with fail
  refine (C1.out _ X).mono ?_
  rintro r w2 ⟨A, c', rfl, hr, b2⟩
  replace X := X.below b2
  have hrow := Lib.hid hr.row
  clear k0 k1 k2 k3 k4 k5 k6 b2 C1 hr
  have bl := X.bel
  have hz2 := hz.at bl
  clear X
  dsimp only at hlen hrow
  by_cases h0 : c = 0
  · have q0 : (c != 0) = false := by rw [h0]; rfl
    by_cases hll : zs.length = ys.length
    · have hlI : (((ys.length : Nat) : Int) != ((zs.length : Nat) : Int)) = false := by rw [hll]; simp
      have HR2 : Hid (q = (clL zs ys, 0)) := Lib.hid (by rw [HR.out, if_neg (by rw [h0]; simp), if_neg (by rw [hll]; simp)])
      obtain ⟨n, hn⟩ : ∃ n, Hid (ys.length = n) := ⟨_, Lib.hid rfl⟩
      have hn2 : Hid (zs.length = n) := Lib.hid (by rw [hll, hn.out])
      rw [hn.out] at hlen
      have hcl : Hid ((clL zs ys).length = n) := Lib.hid (by unfold clL; rw [List.length_zipWith, hn.out, hn2.out]; omega)
      have hl1 := hn.out
      have hl2 := hn2.out
      have I0 : RcI w2 w2 (.slice none 0 0) [] 0 := ⟨World.ownsRow_nil _ _ _ _, rfl, Below.refl _ _⟩
      clear HR h0 hll hzl hz hlI
      go_wp2_with fail
      clear hl1 hl2
      go_loopw [8, 9, 10] (fun lv iv nv wr => ∃ (i : Nat) (l : List Int), i ≤ n ∧ iv = .int .i64 i ∧ Hid (l = (clL zs ys).take i) ∧ RcI w2 wr lv l i) (fun _ iv _ _ => n - (intOf iv).toNat)
      case atStart => exact ⟨0, [], Nat.zero_le _, rfl, Lib.hid rfl, I0⟩
      case round =>
        clear I0
        obtain ⟨i, l, hi, rfl, hl, I⟩ := hrel
        have hlI3 : ((ys.length : Nat) : Int) = (n : Int) := by rw [hn.out]
        obtain ⟨A', cA, rfl⟩ := own_slice_ I.own
        have Y := I.bel
        by_cases hlt : i < n
        · obtain ⟨b, off, s, rfl, hb, hsi, d0, d1, d2, d3⟩ := sl_at (hrow.out.below Y) (show i < ys.length by rw [hn.out]; exact hlt)
          obtain ⟨zb, zoff, z, rfl, hzb, hzi, ez, hzI⟩ := (hz2.below Y).at_ (show i < zs.length by rw [hn2.out]; exact hlt)
          have HC := Lib.hid (clL_take hzi hsi)
          have hsk := HOK.out s (List.mem_of_getElem? hsi)
          unfold G.sOk at hsk
          obtain ⟨sp, sb, lo, hi2⟩ := s
          dsimp only at d0 d1 d2 d3 hsk
          have HL : Hid (∀ m, m = clZ z ⟨sp, sb, lo, hi2⟩ → l ++ [m] = (clL zs ys).take (i + 1)) := Lib.hid (fun m hm => by rw [HC.out, hl.out, hm])
          have hsz := Y.size
          clear hsi hzi HC hl
          have hz3 : clZ z ⟨sp, sb, lo, hi2⟩ = min (max z lo) hi2 := rfl
          by_cases hlo : z < lo
          · have hhi : ¬ hi2 < lo := by omega
            have HL2 := Lib.hid (HL.out lo (by rw [hz3]; omega))
            clear HL hz3 hsk
            go_wp2_with (at_builtin; refine wpList_append_lies _ rfl _ _ 62 rfl w2.heap.size 3 i0 (.int .i64 0) 1 8 Tryz.underlying62 hi0 hz0 hz1 hz2' rfl (by decide) (.slice A' i cA) i (zvals l) rfl (I.own.alloc _) ⟨wr.heap.size, 0, none⟩ 1 1 [.int .i64 lo] rfl rfl (int_cells wr lo 3) (fun u hu => by simp at hu; subst hu; rfl) (by decide) (by unfold maxLen; omega) (by omega) (by rw [World.size_alloc]; omega) _ rfl ?_; intro g cap w8 hown8 hgrow hat hlt8)
            have J := I.next hown8 hgrow
            clear hown8 hgrow hat I d0 d1 d2 d3 ez Y
            go_wp2_with fail
            go_roundw
            case rel => exact ⟨i + 1, _, by omega, by go_num, HL2, J⟩
            case measure => simp [intOf]; omega
          · by_cases hhi : hi2 < z
            · have HL2 := Lib.hid (HL.out hi2 (by rw [hz3]; omega))
              clear HL hz3 hsk
              go_wp2_with (at_builtin; refine wpList_append_lies _ rfl _ _ 62 rfl w2.heap.size 3 i0 (.int .i64 0) 1 8 Tryz.underlying62 hi0 hz0 hz1 hz2' rfl (by decide) (.slice A' i cA) i (zvals l) rfl (I.own.alloc _) ⟨wr.heap.size, 0, none⟩ 1 1 [.int .i64 hi2] rfl rfl (int_cells wr hi2 3) (fun u hu => by simp at hu; subst hu; rfl) (by decide) (by unfold maxLen; omega) (by omega) (by rw [World.size_alloc]; omega) _ rfl ?_; intro g cap w8 hown8 hgrow hat hlt8)
              have J := I.next hown8 hgrow
              clear hown8 hgrow hat I d0 d1 d2 d3 ez Y
              go_wp2_with fail
              go_roundw
              case rel => exact ⟨i + 1, _, by omega, by go_num, HL2, J⟩
              case measure => simp [intOf]; omega
            · have HL2 := Lib.hid (HL.out z (by rw [hz3]; omega))
              clear HL hz3 hsk
              go_wp2_with (at_builtin; refine wpList_append_lies _ rfl _ _ 62 rfl w2.heap.size 3 i0 (.int .i64 0) 1 8 Tryz.underlying62 hi0 hz0 hz1 hz2' rfl (by decide) (.slice A' i cA) i (zvals l) rfl (I.own.alloc _) ⟨wr.heap.size, 0, none⟩ 1 1 [.int .i64 z] rfl rfl (int_cells wr z 3) (fun u hu => by simp at hu; subst hu; rfl) (by decide) (by unfold maxLen; omega) (by omega) (by rw [World.size_alloc]; omega) _ rfl ?_; intro g cap w8 hown8 hgrow hat hlt8)
              have J := I.next hown8 hgrow
              clear hown8 hgrow hat I d0 d1 d2 d3 ez Y
              go_wp2_with fail
              go_roundw
              case rel => exact ⟨i + 1, _, by omega, by go_num, HL2, J⟩
              case measure => simp [intOf]; omega
        · obtain rfl : i = n := by omega
          have hle : l = clL zs ys := by rw [hl.out, List.take_of_length_le (by rw [hcl.out]; exact Nat.le_refl _)]
          have hV : Hid (Ending.returned (.tuple #[.slice A' i cA, .int .i64 0]) = Ending.returned (.tuple #[.slice A' q.1.length cA, .int .i64 q.2])) := Lib.hid (by rw [HR2.out]; show _ = Ending.returned (.tuple #[.slice _ (clL zs ys).length _, _]); rw [hcl.out])
          have HO := I.own
          rw [hle, ← hcl.out] at HO
          have HZ := Lib.hid (zs_own HO (by rw [hcl.out]; omega) (fun z hz => by
            unfold clL at hz
            obtain ⟨j, hj, rfl⟩ := List.mem_iff_getElem.1 hz
            rw [List.getElem_zipWith]
            have h1 := hz2.all _ (List.getElem_mem (l := zs) (n := j) (by rw [List.length_zipWith] at hj; omega))
            have h2 := HOK.out _ (List.getElem_mem (l := ys) (n := j) (by rw [List.length_zipWith] at hj; omega))
            unfold inI at h1 ⊢
            unfold clZ
            unfold G.sOk at h2
            omega))
          clear HO hle hl
          go_wp2_with fail
          go_ret2
          exact ⟨A', cA, hV.out, by rw [HR2.out]; exact HZ.out, bTrans bl Y⟩
    · have hlI : (((ys.length : Nat) : Int) != ((zs.length : Nat) : Int)) = true := by simp; omega
      have HQ : Hid (q = ([], 2)) := Lib.hid (by rw [HR.out, if_neg (by rw [h0]; simp), if_pos hll])
      have hV : Hid (Ending.returned (.tuple #[.slice none 0 0, .int .i64 2]) = Ending.returned (.tuple #[.slice none q.1.length 0, .int .i64 q.2])) := Lib.hid (by rw [HQ.out]; rfl)
      clear HR h0 hll
      go_wp2_with fail
      go_ret2
      exact ⟨none, 0, hV.out, by rw [HQ.out]; exact zs_nil _ _, bl⟩
  · have q0 : (c != 0) = true := by simpa using h0
    have HQ : Hid (q = ([], c)) := Lib.hid (by rw [HR.out, if_pos h0])
    have hV : Hid (Ending.returned (.tuple #[.slice none 0 0, .int .i64 c]) = Ending.returned (.tuple #[.slice none q.1.length 0, .int .i64 q.2])) := Lib.hid (by rw [HQ.out]; rfl)
    clear HR h0
    go_wp2_with fail
    go_ret2
    exact ⟨none, 0, hV.out, by rw [HQ.out]; exact zs_nil _ _, bl⟩
end Go.Proofs.YtlpnbcdnlbghdaaGreatDoor
