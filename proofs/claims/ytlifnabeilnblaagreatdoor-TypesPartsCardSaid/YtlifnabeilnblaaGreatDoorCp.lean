/- Walks: strconv.Itoa of a small number; join of package types. -/
import Derived.Test.YtlifnabeilnblaaGreatDoorSl
import Derived.Test.YtlifnabeilnblaaGreatDoorLib
namespace Go.Proofs.YtlifnabeilnblaaGreatDoor
open Go.RowKit Go.Sort
set_option linter.unusedVariables false

set_option maxRecDepth 100000 in
theorem small_any (i : Nat) (hi : i < 33) (w : World) : Calls Tryz.prog 93 #[.int .i64 (i : Int)] w fun e w' => e = .returned (.string (num i)) ∧ w = w' := by
  by_cases h : i < 10
  · have hI : (i : Int) < 10 := by omega
    go_enter Tryz.func93, Tryz.ntmps93
    go_wp2_with fail
    go_ret
    refine ⟨ret_str ?_, rfl⟩
    obtain rfl | rfl | rfl | rfl | rfl | rfl | rfl | rfl | rfl | rfl : i = 0 ∨ i = 1 ∨ i = 2 ∨ i = 3 ∨ i = 4 ∨ i = 5 ∨ i = 6 ∨ i = 7 ∨ i = 8 ∨ i = 9 := by omega
    all_goals decide +kernel
  · have hI : ¬ (i : Int) < 10 := by omega
    go_enter Tryz.func93, Tryz.ntmps93
    go_wp2_with fail
    go_ret
    refine ⟨ret_str ?_, rfl⟩
    obtain rfl | rfl | rfl | rfl | rfl | rfl | rfl | rfl | rfl | rfl | rfl | rfl | rfl | rfl | rfl | rfl | rfl | rfl | rfl | rfl | rfl | rfl | rfl : i = 10 ∨ i = 11 ∨ i = 12 ∨ i = 13 ∨ i = 14 ∨ i = 15 ∨ i = 16 ∨ i = 17 ∨ i = 18 ∨ i = 19 ∨ i = 20 ∨ i = 21 ∨ i = 22 ∨ i = 23 ∨ i = 24 ∨ i = 25 ∨ i = 26 ∨ i = 27 ∨ i = 28 ∨ i = 29 ∨ i = 30 ∨ i = 31 ∨ i = 32 := by omega
    all_goals decide +kernel
set_option maxRecDepth 100000 in
theorem itoa_any (i : Nat) (hi : i < 33) (w : World) : Calls Tryz.prog 40 #[.int .i64 (i : Int)] w fun e w' => e = .returned (.string (num i)) ∧ w = w' := by
  have h1 : ∀ w : World, Calls Tryz.prog 78 #[.int .i64 (i : Int), .int .i64 10] w fun e w' => e = .returned (.string (num i)) ∧ w = w' := fun w => by
    have hI : (i : Int) < 100 := by omega
    go_enter Tryz.func78, Tryz.ntmps78
    go_wp2_with fail
    refine (small_any i hi _).mono ?_
    rintro r w1 ⟨rfl, rfl⟩
    go_wp2_with fail
    go_ret
    exact ⟨rfl, rfl⟩
  have h2 : ∀ w : World, Calls Tryz.prog 64 #[.int .i64 (i : Int)] w fun e w' => e = .returned (.string (num i)) ∧ w = w' := fun w => by
    have H1 := Lib.hid h1
    clear h1
    go_enter Tryz.func64, Tryz.ntmps64
    go_wp2_with fail
    refine (H1.out _).mono ?_
    rintro r w1 ⟨rfl, rfl⟩
    go_wp2_with fail
    go_ret
    exact ⟨rfl, rfl⟩
  have H2 := Lib.hid h2
  clear h1 h2
  go_enter Tryz.func40, Tryz.ntmps40
  go_wp2_with fail
  refine (H2.out _).mono ?_
  rintro r w1 ⟨rfl, rfl⟩
  go_wp2_with fail
  go_ret
  exact ⟨rfl, rfl⟩
theorem bytes_app (l : List UInt8) (s : ByteArray) : Lib.byteCells l ++ Lib.strCells s = Lib.byteCells (l ++ s.data.toList) := by
  simp [Lib.byteCells, Lib.strCells]
theorem bytes_one (l : List UInt8) (b : UInt8) (c : Int) (h : c = (b.toNat : Int)) : Lib.byteCells l ++ [.int .u8 c] = Lib.byteCells (l ++ [b]) := by
  subst h; simp [Lib.byteCells]
set_option maxRecDepth 100000 in
set_option maxHeartbeats 1000000 in
theorem join_any (p n : ByteArray) (hp : p.size ≤ 1000000) (hn : n.size ≤ 1000000) (w : World) : Calls Tryz.prog 28 #[.string p, .string n] w fun e w' => e = .returned (.string (jn p n)) ∧ Below w.heap.size w w' := by
  have X0 : Lib.IsBuilderF 88 5 w.heap.size w.heap.size (Lib.byteCells []) (w.alloc (.cells #[.pointer none, .slice none 0 0] 88)) :=
    .inl ⟨Nat.le_refl _, .slice none 0 0, heap_alloc_new _ _, World.ownsRowF_nil _ _ _ _, by simp [Value.ownBlock]⟩
  have b0 := al1 w (.cells #[.pointer none, .slice none 0 0] 88)
  have hz : w.heap.size ≤ (w.alloc (.cells #[.pointer none, .slice none 0 0] 88)).heap.size := by simp
  go_enter Tryz.func28, Tryz.ntmps28
  go_upto_region 2 with (fail)
  revert X0 b0 hz
  generalize w.alloc (.cells #[.pointer none, .slice none 0 0] 88) = w1
  intro X0 b0 hz
  go_wp2_with fail
  refine (writeString w.heap.size w.heap.size _ p w1 X0 (by simp [Lib.byteCells] <;> omega) hz).mono ?_
  rintro e w2 ⟨rfl, ha2, hb2, -⟩
  have b2 := bAll b0 hb2
  have X2 : Lib.IsBuilderF 88 5 w.heap.size w.heap.size (Lib.byteCells (bs p)) w2 := .inr (by rw [bytes_app] at ha2; exact ha2)
  have hl2 : (Lib.byteCells (bs p)).length = p.size := by simp [Lib.byteCells, bs_length]
  clear ha2 hb2 X0 b0
  go_wp2_with fail
  refine (writeByte w.heap.size w.heap.size _ 46 w2 X2 (by rw [hl2]; omega) b2.size).mono ?_
  rintro e w3 ⟨rfl, ha3, hb3, -⟩
  have b3 := bAll b2 hb3
  have X3 : Lib.IsBuilderF 88 5 w.heap.size w.heap.size (Lib.byteCells (bs p ++ [46])) w3 := .inr (by rw [bytes_one _ 46 46 rfl] at ha3; exact ha3)
  have hl3 : (Lib.byteCells (bs p ++ [46])).length = p.size + 1 := by simp [Lib.byteCells, bs_length]
  clear ha3 hb3 X2 b2
  go_wp2_with fail
  refine (writeString w.heap.size w.heap.size _ n w3 X3 (by rw [hl3]; omega) b3.size).mono ?_
  rintro e w4 ⟨rfl, ha4, hb4, -⟩
  have b4 := bAll b3 hb4
  have X4 : Lib.IsBuilderF 88 5 w.heap.size w.heap.size (Lib.byteCells (bs p ++ [46] ++ bs n)) w4 := .inr (by rw [bytes_app] at ha4; exact ha4)
  clear ha4 hb4 X3 b3
  go_wp2_with fail
  refine (builderString w.heap.size w.heap.size _ w4 X4 b4.size).mono ?_
  rintro e w5 ⟨rfl, _, hb5, _⟩
  have b5 := bAll b4 hb5
  go_wp2_with fail
  go_ret
  exact ⟨ret_str (by unfold jn mkB; simp), b5⟩
end Go.Proofs.YtlifnabeilnblaaGreatDoor
/- Walks: components of package types. -/
namespace Go.Proofs.YtlifnabeilnblaaGreatDoor
open Go.RowKit Go.Sort
set_option linter.unusedVariables false

/-- the cells of a component -/
abbrev cCells (c : ByteArray × G) : List Value := [.string c.1, .int .i64 c.2.kd, .int .i64 c.2.lo, .int .i64 c.2.hi, .int .i64 c.2.sz, .string c.2.nm, .slice c.2.na c.2.ns.length c.2.nc, .slice c.2.ad c.2.ks.length c.2.cap]
abbrev cBox (c : ByteArray × G) : Array Value := #[.string c.1, .int .i64 c.2.kd, .int .i64 c.2.lo, .int .i64 c.2.hi, .int .i64 c.2.sz, .string c.2.nm, .slice c.2.na c.2.ns.length c.2.nc, .slice c.2.ad c.2.ks.length c.2.cap]
def flatC (l : List (ByteArray × G)) : List Value := l.flatMap cCells
theorem flatC_snoc (l : List (ByteArray × G)) (c : ByteArray × G) : flatC (l ++ [c]) = flatC l ++ cCells c := by unfold flatC; rw [List.flatMap_append]; simp
theorem infoComp : (Tryz.prog.info? 68).map (fun i => (i.zero, i.size, i.bytes)) = some (some (.agg #[.string ⟨#[]⟩, .int .i64 0, .int .i64 0, .int .i64 0, .int .i64 0, .string ⟨#[]⟩, .slice none 0 0, .slice none 0 0]), 8, 112) := by kernel_rfl
/-- the world in the loops of components -/
structure CpI (w wr : World) (e : G) (v : Value) (l : List (ByteArray × G)) (n : Nat) : Prop where
  be : Blk wr w.heap.size e.box
  own : wr.ownsRow (w.heap.size + 1) 68 8 v n (flatC l)
  len : l.length = n
  bel : Below w.heap.size w wr
theorem CpI.below {w wr w' : World} {e : G} {v : Value} {l : List (ByteArray × G)} {n : Nat} (h : CpI w wr e v l n) (hb : Below wr.heap.size wr w') : CpI w w' e v l n :=
  ⟨h.be.below hb h.be.lt, h.own.kept (row := none) (grown_of_below hb none) (by cases hv : v.ownBlock <;> simp), h.len, bTrans h.bel hb⟩
theorem CpI.next {w wr w8 : World} {e : G} {v v' : Value} {l : List (ByteArray × G)} {n : Nat} {c : ByteArray × G} (h : CpI w wr e v l n)
    (ho : w8.ownsRow (w.heap.size + 1) 68 8 v' (n + 1) (flatC l ++ cCells c)) (hg : wr.grownBy w8 v.ownBlock) : CpI w w8 e v' (l ++ [c]) (n + 1) :=
  ⟨h.be.grown hg (fun e => by have := (h.own.lt _ e.symm).1; omega), by rw [flatC_snoc]; exact ho, by rw [List.length_append, h.len]; rfl, h.bel.grown hg h.bel.size (fun k e => by have := (h.own.lt k e).1; omega)⟩
theorem comp_cells (w : World) (c : ByteArray × G) (T : TypeId) : ∀ j u, (cCells c)[j]? = some u → (w.alloc (.cells (cBox c) T)).cell? ((⟨w.heap.size, 0, none⟩ : Addr).add j) = some u := fun j u hu => by
  rw [Go.WideShapes.add_plain, Nat.zero_add]
  exact (Blk.new_ w (cBox c) T).c j (by show (cCells c).toArray[j]? = some u; simpa using hu)
theorem comp_one (c : ByteArray × G) : ∀ u ∈ cCells c, u.oneCell' = true := by
  intro u hu
  simp only [List.mem_cons, List.not_mem_nil, or_false] at hu
  rcases hu with rfl | rfl | rfl | rfl | rfl | rfl | rfl | rfl <;> rfl
/-- components in memory -/
structure CL (w : World) (B : Nat) (A : Option Addr) (l : List (ByteArray × G)) : Prop where
  row : Row w B A (flatC l)
  all : ∀ c ∈ l, G.In w B c.2
/-- what components hands back -/
def NewCs (l : List (ByteArray × G)) (w : World) (r : Ending) (w' : World) : Prop := ∃ A c, r = .returned (.slice A l.length c) ∧ RowS w' (New w) A (flatC l) ∧ Below w.heap.size w w'
theorem grow_set_own {w w8 : World} {o : Obj} {row : Option Nat} (h : (w.alloc o).grownBy w8 row) : w.grownBy w8 row := grown_trans (grown_alloc w o row) h
set_option maxRecDepth 100000 in
set_option maxHeartbeats 4000000 in
theorem components_any (e : G) (w : World) (hin : G.In w w.heap.size e) (hm : e.mal = false) (ho : e.out = false) :
    Calls Tryz.prog 22 #[e.val] w (NewCs (G.comps e) w) := by
  have f := (G.mal_iff e).1 hm
  obtain ⟨i0, hi0, hz0, hz1, hz2⟩ := info_parts infoComp
  have X : CpI w (w.alloc (.cells e.box 26)) e (.slice none 0 0) [] 0 := ⟨Blk.new_ _ _ _, World.ownsRow_nil _ _ _ _, rfl, al1 _ _⟩
  have hl := hin.l
  have hn := hin.nd
  obtain ⟨A, hA⟩ : ∃ A, Hid (e.ad = A) := ⟨_, Lib.hid rfl⟩
  rw [hA.out] at hl
  unfold G.out G.inr at ho
  rw [Bool.not_eq_false', Bool.and_eq_true, Bool.and_eq_true] at ho
  by_cases h2 : e.kd = 2
  · have hs := ho.1.2
    rw [h2] at hs
    simp at hs
    have hk1 := f.ar h2
    obtain ⟨s, hse⟩ : ∃ s : Nat, Hid (e.sz = (s : Int)) := ⟨e.sz.toNat, Lib.hid (by omega)⟩
    have hs1 : s ≤ 32 := by have := hse.out; omega
    have hseq := hse.out
    obtain ⟨ab, off, k, hA2, hab, ⟨d0', d1', d2', d3', d4', d5', d6'⟩, his, hkin⟩ := (hl.below X.bel).at_ (show 0 < e.ks.length by omega)
    rw [Nat.zero_mul, Nat.add_zero] at d0' d1' d2' d3' d4' d5' d6'
    have HD := Lib.hid (fun (W : World) (hb : Below w.heap.size w W) => by
      obtain ⟨ab', off', k', hA3, hab', hel, his', _⟩ := (hl.below hb).at_ (show 0 < e.ks.length by omega)
      rw [Nat.zero_mul, Nat.add_zero] at hel
      have h1 := G.is_inj his' his
      subst h1
      have h3 : ab' = ab ∧ off' = off := by have := hA3.symm.trans hA2; simpa using this
      rw [h3.1, h3.2] at hel
      exact hel)
    have HL : Hid (G.comps e = (List.range s).map fun i => (num i, k)) := Lib.hid (by
      obtain ⟨h0, hk0⟩ := his.eq
      unfold G.comps
      rw [if_pos h2, hse.out, Int.toNat_natCast]
      cases hks : e.ks with
      | nil => rw [hks] at h0; simp at h0
      | cons a l => simp only [hks, List.getElem_cons_zero] at hk0; subst hk0; rfl)
    have hadI := Lib.hid (show e.ad = some ⟨ab, off, none⟩ from hA.out.trans hA2)
    have hseq2 := Lib.hid hseq
    have hklI : (0 : Int) < ((e.ks.length : Nat) : Int) := by omega
    have hklN : 0 < e.ks.length := by omega
    clear hk1
    rw [HL.out]
    have HK2 := Lib.hid h2
    clear hs ho f hm h2 d0' d1' d2' d3' d4' d5' d6' hkin hab his hse HL hseq
    go_enter Tryz.func22, Tryz.ntmps22
    go_upto_region 1 with (fail)
    revert X
    generalize w.alloc (.cells #[.int .i64 e.kd, .int .i64 e.lo, .int .i64 e.hi, .int .i64 e.sz, .string e.nm, .slice e.na e.ns.length e.nc, .slice e.ad e.ks.length e.cap] 26) = w1
    intro X
    obtain ⟨k0, k1, k2, k3, k4, k5, k6⟩ := box_cells X.be
    rw [HK2.out] at k0
    rw [hseq2.out] at k3
    clear hseq2 hadI
    go_wp2_with fail
    clear k0 k1 k2 k3 k4 k5 k6
    go_loopw [3, 13] (fun lv iv wr => ∃ (i : Nat), i ≤ s ∧ iv = .int .i64 i ∧ ∃ l : List (ByteArray × G), Hid (l = (List.range i).map fun i => (num i, k)) ∧ CpI w wr e lv l i) (fun _ iv _ => s - (intOf iv).toNat)
    case atStart => exact ⟨0, Nat.zero_le _, rfl, [], Lib.hid rfl, X⟩
    case round =>
      clear X
      obtain ⟨i, hi, rfl, l, hls, Y⟩ := hrel
      obtain ⟨A', c', rfl⟩ := own_slice_ Y.own
      by_cases hlt : i < s
      · have hltI : (i : Int) < (s : Int) := by omega
        have Yd := Y.below (show Below wr.heap.size wr wr.drew from (Below.refl _ _).drew)
        obtain ⟨d0, d1, d2, d3, d4, d5, d6⟩ := HD.out _ Yd.bel
        have k6 := (box_cells Yd.be).2.2.2.2.2.2
        rw [hA.out, hA2] at k6
        have HLN : Hid (l ++ [(num i, k)] = (List.range (i + 1)).map fun i => (num i, k)) := Lib.hid (by rw [List.range_succ, List.map_append, hls.out]; rfl)
        have ho := Yd.own
        have hzz : w.heap.size < wr.heap.size := Yd.be.lt
        clear hls
        go_wp2_with fail
        go_region_law (first
          | (refine step_append_lies _ (by rfl) _ _ 65 (by rfl) (w.heap.size + 1) 68 i0 (.agg #[.string ⟨#[]⟩, .int .i64 0, .int .i64 0, .int .i64 0, .int .i64 0, .string ⟨#[]⟩, .slice none 0 0, .slice none 0 0]) 8 112 Tryz.underlying65 hi0 hz0 hz1 hz2 (by decide) (by decide) _ _ _ (by rfl) (ho.alloc _) ⟨wr.heap.size, 0, none⟩ 1 1 (cCells (num i, k)) (by rfl) (by rfl) (comp_cells wr.drew (num i, k) 68) (comp_one _) (by decide) (by unfold maxLen; omega) (by omega) (by show _ ≤ (wr.alloc _).heap.size; rw [World.size_alloc]; omega) _ rfl ?_; intro g cap w8 hown8 hgrow hat hlt8; have Y8 := Yd.next (c := (num i, k)) hown8 (grow_set_own hgrow))
          | (go_simp; go_at_call 40; refine (itoa_any i (by omega) _).mono ?_; rintro r w3 ⟨rfl, rfl⟩))
        all_goals
          clear hown8 hgrow hat ho Yd Y d0 d1 d2 d3 d4 d5 d6 k6
          go_wp2_with fail
          go_roundw
          case rel => exact ⟨i + 1, by omega, by go_num, l ++ [(num i, k)], HLN, Y8⟩
          case measure => simp [intOf]; omega
      · obtain rfl : i = s := by omega
        have hr := RowS.of_own Y.own (by decide)
        have b2 := Y.bel
        have hll2 : ((List.range i).map fun i => (num i, k)).length = i := by simp
        have hV : Hid (Ending.returned (.slice A' i c') = Ending.returned (.slice A' ((List.range i).map fun i => (num i, k)).length c')) := Lib.hid (by rw [hll2])
        rw [hls.out] at hr
        go_wp2_with fail
        go_ret
        exact ⟨A', c', hV.out, hr.keep (fun _ _ _ => rfl) (fun b hb _ => by show w.heap.size ≤ b; omega) (Nat.le_refl _), b2⟩
  by_cases h3 : e.kd = 3
  · have hrc := (f.rc h3).2
    have hs := ho.2
    rw [h3] at hs
    simp at hs
    have HL : Hid (G.comps e = e.ns.zip e.ks) := Lib.hid (by unfold G.comps; rw [if_neg h2, if_pos h3])
    rw [HL.out]
    have HK2 := Lib.hid h3
    have hzl : (e.ns.zip e.ks).length = e.ks.length := by rw [List.length_zip]; omega
    obtain ⟨n, hnn⟩ : ∃ n, Hid (e.ks.length = n) := ⟨_, Lib.hid rfl⟩
    have hnn2 : Hid (e.ns.length = n) := Lib.hid (by rw [← hrc, hnn.out])
    have hn32 : n ≤ 32 := by rw [← hnn.out]; exact hs
    obtain ⟨NA, hNA⟩ : ∃ A, Hid (e.na = A) := ⟨_, Lib.hid rfl⟩
    clear hs ho f hm h2 h3 hrc HL
    go_enter Tryz.func22, Tryz.ntmps22
    go_upto_region 1 with (fail)
    revert X
    generalize w.alloc (.cells #[.int .i64 e.kd, .int .i64 e.lo, .int .i64 e.hi, .int .i64 e.sz, .string e.nm, .slice e.na e.ns.length e.nc, .slice e.ad e.ks.length e.cap] 26) = w1
    intro X
    obtain ⟨k0, k1, k2, k3, k4, k5, k6⟩ := box_cells X.be
    rw [HK2.out] at k0
    rw [hA.out, hnn.out] at k6
    go_wp2_with fail
    clear k0 k1 k2 k3 k4 k5 k6
    go_loopw [3, 32] (fun lv iv wr => ∃ (i : Nat), i ≤ n ∧ iv = .int .i64 i ∧ ∃ l : List (ByteArray × G), Hid (l = (e.ns.zip e.ks).take i) ∧ CpI w wr e lv l i) (fun _ iv _ => n - (intOf iv).toNat)
    case atStart => exact ⟨0, Nat.zero_le _, rfl, [], Lib.hid rfl, X⟩
    case round =>
      clear X
      obtain ⟨i, hi, rfl, l, hls, Y⟩ := hrel
      obtain ⟨A', c', rfl⟩ := own_slice_ Y.own
      by_cases hlt : i < n
      · have hlt1 : i < e.ks.length := by rw [hnn.out]; exact hlt
        have hlt2 : i < e.ns.length := by rw [hnn2.out]; exact hlt
        obtain ⟨ab, off, k, rfl, hab, ⟨d0, d1, d2, d3, d4, d5, d6⟩, his, hkin⟩ := (hl.below Y.bel).at_ hlt1
        obtain ⟨nb, no, hN2, hnb, hnc⟩ := (hn.below Y.bel).name_at hlt2
        obtain rfl : NA = some ⟨nb, no, none⟩ := hNA.out.symm.trans hN2
        have HLN := Lib.hid (show ∀ s, s = e.ns[i] → l ++ [(s, k)] = (e.ns.zip e.ks).take (i + 1) from fun s hs => by
          have hz : i < (e.ns.zip e.ks).length := by rw [List.length_zip]; omega
          rw [List.take_succ_eq_append_getElem hz, hls.out, List.getElem_zip, hs]
          obtain ⟨h0, hk0⟩ := his.eq
          rw [hk0])
        revert hnc HLN
        generalize e.ns[i] = s
        intro hnc HLN
        have HL2 := Lib.hid (HLN.out s rfl)
        have Ya := Y.below (al1 wr (.cells k.box 26))
        have BK := Blk.new_ wr k.box 26
        have hnc2 : (wr.alloc (.cells k.box 26)).cell? ⟨nb, no + i, none⟩ = some (.string s) := (World.cell?_alloc_lt _ _ _ (Nat.lt_of_lt_of_le hnb Y.bel.size)).trans hnc
        clear hls HLN hN2 hkin
        go_wp2_with fail
        clear d0 d1 d2 d3 d4 d5 d6 hnc
        revert Ya BK hnc2
        generalize wr.alloc (.cells #[.int .i64 k.kd, .int .i64 k.lo, .int .i64 k.hi, .int .i64 k.sz, .string k.nm, .slice k.na k.ns.length k.nc, .slice k.ad k.ks.length k.cap] 26) = w2
        intro Ya BK hnc2
        have Yd := Ya.below (show Below _ _ w2.drew from (Below.refl _ _).drew)
        obtain ⟨n0, n1, n2, n3, n4, n5, n6⟩ := box_cells BK.drew
        replace hnc2 : w2.drew.cell? ⟨nb, no + i, none⟩ = some (.string s) := hnc2
        have k5 := (box_cells Yd.be).2.2.2.2.2.1
        rw [hNA.out, hnn2.out] at k5
        have ho := Yd.own
        have hzz : w.heap.size < w2.heap.size := Ya.be.lt
        go_region_law (first
          | (refine step_append_lies _ (by rfl) _ _ 65 (by rfl) (w.heap.size + 1) 68 i0 (.agg #[.string ⟨#[]⟩, .int .i64 0, .int .i64 0, .int .i64 0, .int .i64 0, .string ⟨#[]⟩, .slice none 0 0, .slice none 0 0]) 8 112 Tryz.underlying65 hi0 hz0 hz1 hz2 (by decide) (by decide) _ _ _ (by rfl) (ho.alloc _) ⟨w2.heap.size, 0, none⟩ 1 1 (cCells (s, k)) (by rfl) (by rfl) (comp_cells w2.drew (s, k) 68) (comp_one _) (by decide) (by unfold maxLen; omega) (by omega) (by show _ ≤ (w2.alloc _).heap.size; rw [World.size_alloc]; omega) _ rfl ?_; intro g cap w8 hown8 hgrow hat hlt8; have Y8 := Yd.next (c := (s, k)) hown8 (grow_set_own hgrow)))
        all_goals
          clear hown8 hgrow hat ho Yd Ya Y n0 n1 n2 n3 n4 n5 n6 k5 BK hnc2
          go_wp2_with fail
          go_roundw
          case rel => exact ⟨i + 1, by omega, by go_num, l ++ [(s, k)], HL2, Y8⟩
          case measure => simp [intOf]; omega
      · obtain rfl : i = n := by omega
        have hr := RowS.of_own Y.own (by decide)
        have b2 := Y.bel
        rw [hls.out, List.take_of_length_le (by rw [hzl, hnn.out]; exact Nat.le_refl _)] at hr
        have hV : Hid (Ending.returned (.slice A' i c') = Ending.returned (.slice A' (e.ns.zip e.ks).length c')) := Lib.hid (by rw [hzl, hnn.out])
        go_wp2_with fail
        go_ret
        exact ⟨A', c', hV.out, hr.keep (fun _ _ _ => rfl) (fun b hb _ => by show w.heap.size ≤ b; omega) (Nat.le_refl _), b2⟩
  · have HL : Hid (G.comps e = []) := Lib.hid (by unfold G.comps; rw [if_neg h2, if_neg h3])
    have q2 : (e.kd == 2) = false := by simpa using h2
    have q3 : (e.kd == 3) = false := by simpa using h3
    have b2 := X.bel
    rw [HL.out]
    clear h2 h3 ho hm f
    go_enter Tryz.func22, Tryz.ntmps22
    go_wp2_with fail
    go_ret
    exact ⟨none, 0, rfl, ⟨fun h => absurd h (by decide)⟩, b2⟩
end Go.Proofs.YtlifnabeilnblaaGreatDoor
