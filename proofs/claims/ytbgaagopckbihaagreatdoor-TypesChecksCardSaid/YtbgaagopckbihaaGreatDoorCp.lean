/- Walks: components of package types. -/
import Derived.Test.YtbgaagopckbihaaGreatDoorIt
namespace Go.Proofs.YtbgaagopckbihaaGreatDoor
open Go.RowKit Go.Sort
set_option linter.unusedVariables false

/-- the cells of a component -/
abbrev cCells (c : ByteArray × G) : List Value := [.string c.1, .int .i64 c.2.kd, .int .i64 c.2.lo, .int .i64 c.2.hi, .int .i64 c.2.sz, .string c.2.nm, .slice c.2.na c.2.ns.length c.2.nc, .slice c.2.ad c.2.ks.length c.2.cap]
abbrev cBox (c : ByteArray × G) : Array Value := #[.string c.1, .int .i64 c.2.kd, .int .i64 c.2.lo, .int .i64 c.2.hi, .int .i64 c.2.sz, .string c.2.nm, .slice c.2.na c.2.ns.length c.2.nc, .slice c.2.ad c.2.ks.length c.2.cap]
def flatC (l : List (ByteArray × G)) : List Value := l.flatMap cCells
theorem flatC_snoc (l : List (ByteArray × G)) (c : ByteArray × G) : flatC (l ++ [c]) = flatC l ++ cCells c := by unfold flatC; rw [List.flatMap_append]; simp
theorem infoComp : (Tryz.prog.info? 84).map (fun i => (i.zero, i.size, i.bytes)) = some (some (.agg #[.string ⟨#[]⟩, .int .i64 0, .int .i64 0, .int .i64 0, .int .i64 0, .string ⟨#[]⟩, .slice none 0 0, .slice none 0 0]), 8, 112) := by kernel_rfl
/-- the world in the loops of components -/
structure CpI (w wr : World) (e : G) (v : Value) (l : List (ByteArray × G)) (n : Nat) : Prop where
  be : Blk wr w.heap.size e.box
  own : wr.ownsRow (w.heap.size + 1) 84 8 v n (flatC l)
  len : l.length = n
  bel : Below w.heap.size w wr
theorem CpI.below {w wr w' : World} {e : G} {v : Value} {l : List (ByteArray × G)} {n : Nat} (h : CpI w wr e v l n) (hb : Below wr.heap.size wr w') : CpI w w' e v l n :=
  ⟨h.be.below hb h.be.lt, h.own.kept (row := none) (grown_of_below hb none) (by cases hv : v.ownBlock <;> simp), h.len, bTrans h.bel hb⟩
theorem CpI.next {w wr w8 : World} {e : G} {v v' : Value} {l : List (ByteArray × G)} {n : Nat} {c : ByteArray × G} (h : CpI w wr e v l n)
    (ho : w8.ownsRow (w.heap.size + 1) 84 8 v' (n + 1) (flatC l ++ cCells c)) (hg : wr.grownBy w8 v.ownBlock) : CpI w w8 e v' (l ++ [c]) (n + 1) :=
  ⟨h.be.grown hg (fun e => by have := (h.own.lt _ e.symm).1; omega), by rw [flatC_snoc]; exact ho, by rw [List.length_append, h.len]; rfl, h.bel.grown hg h.bel.size (fun k e => by have := (h.own.lt k e).1; omega)⟩
theorem comp_cells (w : World) (c : ByteArray × G) (T : TypeId) : ∀ j u, (cCells c)[j]? = some u → (w.alloc (.cells (cBox c) T)).cell? ((⟨w.heap.size, 0, none⟩ : Addr).add j) = some u := fun j u hu => by
  rw [Go.WideShapes.add_plain, Nat.zero_add]
  exact (Blk.new_ w (cBox c) T).c j (by show (cCells c).toArray[j]? = some u; simpa using hu)
theorem comp_one (c : ByteArray × G) : ∀ u ∈ cCells c, u.oneCell' = true := by
  intro u hu
  simp only [List.mem_cons, List.not_mem_nil, or_false] at hu
  rcases hu with rfl | rfl | rfl | rfl | rfl | rfl | rfl | rfl <;> rfl
/-- components in memory -/
structure CL (w : World) (B : Nat) (A : Option Addr) (l : List (ByteArray × G)) : Prop where
  row : Row w B A (flatC l)
  all : ∀ c ∈ l, G.In w B c.2
/-- what components hands back -/
def NewCs (l : List (ByteArray × G)) (w : World) (r : Ending) (w' : World) : Prop := ∃ A c, r = .returned (.slice A l.length c) ∧ RowS w' (New w) A (flatC l) ∧ Below w.heap.size w w'
theorem grow_set_own {w w8 : World} {o : Obj} {row : Option Nat} (h : (w.alloc o).grownBy w8 row) : w.grownBy w8 row := grown_trans (grown_alloc w o row) h
set_option maxRecDepth 100000 in
set_option maxHeartbeats 4000000 in
theorem components_any (e : G) (w : World) (hin : G.In w w.heap.size e) (hm : e.mal = false) (ho : e.out = false) :
    Calls Tryz.prog 53 #[e.val] w (NewCs (G.comps e) w) := by
  have f := (G.mal_iff e).1 hm
  obtain ⟨i0, hi0, hz0, hz1, hz2⟩ := info_parts infoComp
  have X : CpI w (w.alloc (.cells e.box 26)) e (.slice none 0 0) [] 0 := ⟨Blk.new_ _ _ _, World.ownsRow_nil _ _ _ _, rfl, al1 _ _⟩
  have hl := hin.l
  have hn := hin.nd
  obtain ⟨A, hA⟩ : ∃ A, Hid (e.ad = A) := ⟨_, Lib.hid rfl⟩
  rw [hA.out] at hl
  unfold G.out G.inr at ho
  rw [Bool.not_eq_false', Bool.and_eq_true, Bool.and_eq_true] at ho
  by_cases h2 : e.kd = 2
  · have hs := ho.1.2
    rw [h2] at hs
    simp at hs
    have hk1 := f.ar h2
    obtain ⟨s, hse⟩ : ∃ s : Nat, Hid (e.sz = (s : Int)) := ⟨e.sz.toNat, Lib.hid (by omega)⟩
    have hs1 : s ≤ 32 := by have := hse.out; omega
    have hseq := hse.out
    obtain ⟨ab, off, k, hA2, hab, ⟨d0', d1', d2', d3', d4', d5', d6'⟩, his, hkin⟩ := (hl.below X.bel).at_ (show 0 < e.ks.length by omega)
    rw [Nat.zero_mul, Nat.add_zero] at d0' d1' d2' d3' d4' d5' d6'
    have HD := Lib.hid (fun (W : World) (hb : Below w.heap.size w W) => by
      obtain ⟨ab', off', k', hA3, hab', hel, his', _⟩ := (hl.below hb).at_ (show 0 < e.ks.length by omega)
      rw [Nat.zero_mul, Nat.add_zero] at hel
      have h1 := G.is_inj his' his
      subst h1
      have h3 : ab' = ab ∧ off' = off := by have := hA3.symm.trans hA2; simpa using this
      rw [h3.1, h3.2] at hel
      exact hel)
    have HL : Hid (G.comps e = (List.range s).map fun i => (num i, k)) := Lib.hid (by
      obtain ⟨h0, hk0⟩ := his.eq
      unfold G.comps
      rw [if_pos h2, hse.out, Int.toNat_natCast]
      cases hks : e.ks with
      | nil => rw [hks] at h0; simp at h0
      | cons a l => simp only [hks, List.getElem_cons_zero] at hk0; subst hk0; rfl)
    have hadI := Lib.hid (show e.ad = some ⟨ab, off, none⟩ from hA.out.trans hA2)
    have hseq2 := Lib.hid hseq
    have hklI : (0 : Int) < ((e.ks.length : Nat) : Int) := by omega
    have hklN : 0 < e.ks.length := by omega
    clear hk1
    rw [HL.out]
    have HK2 := Lib.hid h2
    clear hs ho f hm h2 d0' d1' d2' d3' d4' d5' d6' hkin hab his hse HL hseq
    go_enter Tryz.func53, Tryz.ntmps53
    go_upto_region 1 with (fail)
    revert X
    generalize w.alloc (.cells #[.int .i64 e.kd, .int .i64 e.lo, .int .i64 e.hi, .int .i64 e.sz, .string e.nm, .slice e.na e.ns.length e.nc, .slice e.ad e.ks.length e.cap] 26) = w1
    intro X
    obtain ⟨k0, k1, k2, k3, k4, k5, k6⟩ := box_cells X.be
    rw [HK2.out] at k0
    rw [hseq2.out] at k3
    clear hseq2 hadI
    go_wp2_with fail
    clear k0 k1 k2 k3 k4 k5 k6
    go_loopw [3, 13] (fun lv iv wr => ∃ (i : Nat), i ≤ s ∧ iv = .int .i64 i ∧ ∃ l : List (ByteArray × G), Hid (l = (List.range i).map fun i => (num i, k)) ∧ CpI w wr e lv l i) (fun _ iv _ => s - (intOf iv).toNat)
    case atStart => exact ⟨0, Nat.zero_le _, rfl, [], Lib.hid rfl, X⟩
    case round =>
      clear X
      obtain ⟨i, hi, rfl, l, hls, Y⟩ := hrel
      obtain ⟨A', c', rfl⟩ := own_slice_ Y.own
      by_cases hlt : i < s
      · have hltI : (i : Int) < (s : Int) := by omega
        have Yd := Y.below (show Below wr.heap.size wr wr.drew from (Below.refl _ _).drew)
        obtain ⟨d0, d1, d2, d3, d4, d5, d6⟩ := HD.out _ Yd.bel
        have k6 := (box_cells Yd.be).2.2.2.2.2.2
        rw [hA.out, hA2] at k6
        have HLN : Hid (l ++ [(num i, k)] = (List.range (i + 1)).map fun i => (num i, k)) := Lib.hid (by rw [List.range_succ, List.map_append, hls.out]; rfl)
        have ho := Yd.own
        have hzz : w.heap.size < wr.heap.size := Yd.be.lt
        clear hls
        go_wp2_with fail
        go_region_law (first
          | (refine step_append_lies _ (by rfl) _ _ 80 (by rfl) (w.heap.size + 1) 84 i0 (.agg #[.string ⟨#[]⟩, .int .i64 0, .int .i64 0, .int .i64 0, .int .i64 0, .string ⟨#[]⟩, .slice none 0 0, .slice none 0 0]) 8 112 Tryz.underlying80 hi0 hz0 hz1 hz2 (by decide) (by decide) _ _ _ (by rfl) (ho.alloc _) ⟨wr.heap.size, 0, none⟩ 1 1 (cCells (num i, k)) (by rfl) (by rfl) (comp_cells wr.drew (num i, k) 84) (comp_one _) (by decide) (by unfold maxLen; omega) (by omega) (by show _ ≤ (wr.alloc _).heap.size; rw [World.size_alloc]; omega) _ rfl ?_; intro g cap w8 hown8 hgrow hat hlt8; have Y8 := Yd.next (c := (num i, k)) hown8 (grow_set_own hgrow))
          | (go_simp; go_at_call 83; refine (itoa_any i (by omega) _).mono ?_; rintro r w3 ⟨rfl, rfl⟩))
        all_goals
          clear hown8 hgrow hat ho Yd Y d0 d1 d2 d3 d4 d5 d6 k6
          go_wp2_with fail
          go_roundw
          case rel => exact ⟨i + 1, by omega, by go_num, l ++ [(num i, k)], HLN, Y8⟩
          case measure => simp [intOf]; omega
      · obtain rfl : i = s := by omega
        have hr := RowS.of_own Y.own (by decide)
        have b2 := Y.bel
        have hll2 : ((List.range i).map fun i => (num i, k)).length = i := by simp
        have hV : Hid (Ending.returned (.slice A' i c') = Ending.returned (.slice A' ((List.range i).map fun i => (num i, k)).length c')) := Lib.hid (by rw [hll2])
        rw [hls.out] at hr
        go_wp2_with fail
        go_ret
        exact ⟨A', c', hV.out, hr.keep (fun _ _ _ => rfl) (fun b hb _ => by show w.heap.size ≤ b; omega) (Nat.le_refl _), b2⟩
  by_cases h3 : e.kd = 3
  · have hrc := (f.rc h3).2
    have hs := ho.2
    rw [h3] at hs
    simp at hs
    have HL : Hid (G.comps e = e.ns.zip e.ks) := Lib.hid (by unfold G.comps; rw [if_neg h2, if_pos h3])
    rw [HL.out]
    have HK2 := Lib.hid h3
    have hzl : (e.ns.zip e.ks).length = e.ks.length := by rw [List.length_zip]; omega
    obtain ⟨n, hnn⟩ : ∃ n, Hid (e.ks.length = n) := ⟨_, Lib.hid rfl⟩
    have hnn2 : Hid (e.ns.length = n) := Lib.hid (by rw [← hrc, hnn.out])
    have hn32 : n ≤ 32 := by rw [← hnn.out]; exact hs
    obtain ⟨NA, hNA⟩ : ∃ A, Hid (e.na = A) := ⟨_, Lib.hid rfl⟩
    clear hs ho f hm h2 h3 hrc HL
    go_enter Tryz.func53, Tryz.ntmps53
    go_upto_region 1 with (fail)
    revert X
    generalize w.alloc (.cells #[.int .i64 e.kd, .int .i64 e.lo, .int .i64 e.hi, .int .i64 e.sz, .string e.nm, .slice e.na e.ns.length e.nc, .slice e.ad e.ks.length e.cap] 26) = w1
    intro X
    obtain ⟨k0, k1, k2, k3, k4, k5, k6⟩ := box_cells X.be
    rw [HK2.out] at k0
    rw [hA.out, hnn.out] at k6
    go_wp2_with fail
    clear k0 k1 k2 k3 k4 k5 k6
    go_loopw [3, 32] (fun lv iv wr => ∃ (i : Nat), i ≤ n ∧ iv = .int .i64 i ∧ ∃ l : List (ByteArray × G), Hid (l = (e.ns.zip e.ks).take i) ∧ CpI w wr e lv l i) (fun _ iv _ => n - (intOf iv).toNat)
    case atStart => exact ⟨0, Nat.zero_le _, rfl, [], Lib.hid rfl, X⟩
    case round =>
      clear X
      obtain ⟨i, hi, rfl, l, hls, Y⟩ := hrel
      obtain ⟨A', c', rfl⟩ := own_slice_ Y.own
      by_cases hlt : i < n
      · have hlt1 : i < e.ks.length := by rw [hnn.out]; exact hlt
        have hlt2 : i < e.ns.length := by rw [hnn2.out]; exact hlt
        obtain ⟨ab, off, k, rfl, hab, ⟨d0, d1, d2, d3, d4, d5, d6⟩, his, hkin⟩ := (hl.below Y.bel).at_ hlt1
        obtain ⟨nb, no, hN2, hnb, hnc⟩ := (hn.below Y.bel).name_at hlt2
        obtain rfl : NA = some ⟨nb, no, none⟩ := hNA.out.symm.trans hN2
        have HLN := Lib.hid (show ∀ s, s = e.ns[i] → l ++ [(s, k)] = (e.ns.zip e.ks).take (i + 1) from fun s hs => by
          have hz : i < (e.ns.zip e.ks).length := by rw [List.length_zip]; omega
          rw [List.take_succ_eq_append_getElem hz, hls.out, List.getElem_zip, hs]
          obtain ⟨h0, hk0⟩ := his.eq
          rw [hk0])
        revert hnc HLN
        generalize e.ns[i] = s
        intro hnc HLN
        have HL2 := Lib.hid (HLN.out s rfl)
        have Ya := Y.below (al1 wr (.cells k.box 26))
        have BK := Blk.new_ wr k.box 26
        have hnc2 : (wr.alloc (.cells k.box 26)).cell? ⟨nb, no + i, none⟩ = some (.string s) := (World.cell?_alloc_lt _ _ _ (Nat.lt_of_lt_of_le hnb Y.bel.size)).trans hnc
        clear hls HLN hN2 hkin
        go_wp2_with fail
        clear d0 d1 d2 d3 d4 d5 d6 hnc
        revert Ya BK hnc2
        generalize wr.alloc (.cells #[.int .i64 k.kd, .int .i64 k.lo, .int .i64 k.hi, .int .i64 k.sz, .string k.nm, .slice k.na k.ns.length k.nc, .slice k.ad k.ks.length k.cap] 26) = w2
        intro Ya BK hnc2
        have Yd := Ya.below (show Below _ _ w2.drew from (Below.refl _ _).drew)
        obtain ⟨n0, n1, n2, n3, n4, n5, n6⟩ := box_cells BK.drew
        replace hnc2 : w2.drew.cell? ⟨nb, no + i, none⟩ = some (.string s) := hnc2
        have k5 := (box_cells Yd.be).2.2.2.2.2.1
        rw [hNA.out, hnn2.out] at k5
        have ho := Yd.own
        have hzz : w.heap.size < w2.heap.size := Ya.be.lt
        go_region_law (first
          | (refine step_append_lies _ (by rfl) _ _ 80 (by rfl) (w.heap.size + 1) 84 i0 (.agg #[.string ⟨#[]⟩, .int .i64 0, .int .i64 0, .int .i64 0, .int .i64 0, .string ⟨#[]⟩, .slice none 0 0, .slice none 0 0]) 8 112 Tryz.underlying80 hi0 hz0 hz1 hz2 (by decide) (by decide) _ _ _ (by rfl) (ho.alloc _) ⟨w2.heap.size, 0, none⟩ 1 1 (cCells (s, k)) (by rfl) (by rfl) (comp_cells w2.drew (s, k) 84) (comp_one _) (by decide) (by unfold maxLen; omega) (by omega) (by show _ ≤ (w2.alloc _).heap.size; rw [World.size_alloc]; omega) _ rfl ?_; intro g cap w8 hown8 hgrow hat hlt8; have Y8 := Yd.next (c := (s, k)) hown8 (grow_set_own hgrow)))
        all_goals
          clear hown8 hgrow hat ho Yd Ya Y n0 n1 n2 n3 n4 n5 n6 k5 BK hnc2
          go_wp2_with fail
          go_roundw
          case rel => exact ⟨i + 1, by omega, by go_num, l ++ [(s, k)], HL2, Y8⟩
          case measure => simp [intOf]; omega
      · obtain rfl : i = n := by omega
        have hr := RowS.of_own Y.own (by decide)
        have b2 := Y.bel
        rw [hls.out, List.take_of_length_le (by rw [hzl, hnn.out]; exact Nat.le_refl _)] at hr
        have hV : Hid (Ending.returned (.slice A' i c') = Ending.returned (.slice A' (e.ns.zip e.ks).length c')) := Lib.hid (by rw [hzl, hnn.out])
        go_wp2_with fail
        go_ret
        exact ⟨A', c', hV.out, hr.keep (fun _ _ _ => rfl) (fun b hb _ => by show w.heap.size ≤ b; omega) (Nat.le_refl _), b2⟩
  · have HL : Hid (G.comps e = []) := Lib.hid (by unfold G.comps; rw [if_neg h2, if_neg h3])
    have q2 : (e.kd == 2) = false := by simpa using h2
    have q3 : (e.kd == 3) = false := by simpa using h3
    have b2 := X.bel
    rw [HL.out]
    clear h2 h3 ho hm f
    go_enter Tryz.func53, Tryz.ntmps53
    go_wp2_with fail
    go_ret
    exact ⟨none, 0, rfl, ⟨fun h => absurd h (by decide)⟩, b2⟩
end Go.Proofs.YtbgaagopckbihaaGreatDoor
