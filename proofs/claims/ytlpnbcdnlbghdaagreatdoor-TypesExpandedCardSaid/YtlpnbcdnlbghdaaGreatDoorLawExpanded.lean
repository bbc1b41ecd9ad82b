/- Walk: the law TypesExpanded. -/
import Derived.Test.YtlpnbcdnlbghdaaGreatDoorDw
import Derived.Test.YtlpnbcdnlbghdaaGreatDoorCd
import Derived.Test.YtlpnbcdnlbghdaaGreatDoorPe
import Derived.Test.YtlpnbcdnlbghdaaGreatDoorKw
import Derived.Test.YtlpnbcdnlbghdaaGreatDoorCe
namespace Go.Proofs.YtlpnbcdnlbghdaaGreatDoor
open Go.RowKit Go.Sort
set_option linter.unusedVariables false

theorem zero_lies (w : World) (B : Nat) : G.In w B G.zero := by
  rw [G.in_eq]
  exact ⟨⟨inI_small (by show (-1000 : Int) ≤ 0; omega) (by show (0 : Int) ≤ 1000; omega), inI_small (by show (-1000 : Int) ≤ 0; omega) (by show (0 : Int) ≤ 1000; omega), inI_small (by show (-1000 : Int) ≤ 0; omega) (by show (0 : Int) ≤ 1000; omega), inI_small (by show (-1000 : Int) ≤ 0; omega) (by show (0 : Int) ≤ 1000; omega), by decide, by decide, fun s hs => absurd hs (by simp [G.zero, G.ns]), ⟨fun h => absurd h (by simp [G.zero, G.ns, svals])⟩, by decide, ⟨fun h => absurd h (by simp [G.zero, G.ks, G.flat])⟩⟩, trivial⟩
/-- what the first expansion comes to -/
theorem ex_self {ds : List Dc} {t x : G} (h : (G.expD nmB ds t).2 = 0) (hx : x.bare = (G.expD nmB ds t).1) : G.expD nmB ds x = (x.bare, 0) ∧ G.chkT nmB x = 0 :=
  ⟨G.expD_self h hx, (G.Vd.of_bare (by rw [hx]; exact G.expD_vd h)).chkT⟩
theorem ex_eq {x y : G} (h : y.bare = x.bare) : G.eqB x y = true := (G.eqB_bare x y).2 h.symm
theorem ex_zero {ds : List Dc} {t x : G} (h : (G.expD nmB ds t).2 ≠ 0) (hx : x.bare = (G.expD nmB ds t).1) : G.eqB x G.zero = true :=
  (G.eqB_bare x G.zero).2 (by rw [hx, G.expD_zero h, G.bare_eq]; rfl)
/-- one more declaration -/
abbrev dn (f : G) : Dc := ⟨0, unB, f, 0, 0, 0, ⟨#[]⟩, none, 0, 0, none, 0, 0, none, 0, 0, none, 0, 0⟩
/-- the longer list, and where it lies -/
structure LgR (w w8 : World) (ds : List Dc) (d : Dc) (g : Nat) : Prop where
  row : Row w8 w8.heap.size (some ⟨g, 0, none⟩) ((ds ++ [d]).flatMap Dc.cells)
  bel : Below w.heap.size w w8
theorem LgR.name {w w8 : World} {ds : List Dc} {d : Dc} {g : Nat} (_ : LgR w w8 ds d g) : ∃ W, W = w8 := ⟨_, rfl⟩
theorem isUn_all {ds : List Dc} (h : ds.any isUn = false) : ∀ d ∈ ds, d.nm ≠ unB := fun d hd => by
  have := List.any_eq_false.1 h d hd
  unfold isUn at this
  simpa using this
theorem ex_more {ds : List Dc} {e f : G} (hu : ds.any isUn = false) (h : (G.expD nmB ds e).2 = 0) : ((G.expD nmB ds f).2 ≠ 0 → (G.expD nmB (ds ++ [dn f]) e).2 = (G.expD nmB ds f).2) ∧ ((G.expD nmB ds f).2 = 0 → G.expD nmB (ds ++ [dn f]) e = G.expD nmB ds e) :=
  G.expD_more (d := dn f) rfl (by show nmB unB = true; decide +kernel) (isUn_all hu) h
theorem own_mono2 {w : World} {base base' e z : Nat} {v : Value} {n : Nat} {xs : List Value} (h : w.ownsRow base e z v n xs) (hb : base' ≤ base) : w.ownsRow base' e z v n xs := by
  refine ⟨h.1, ?_⟩
  rcases h.2 with h2 | ⟨g, cap, cur, hv, hg, r⟩
  · exact .inl h2
  · exact .inr ⟨g, cap, cur, hv, Nat.le_trans hb hg, r⟩
theorem lg_row {w8 : World} {base g cap : Nat} {ds : List Dc} {d : Dc} (h : w8.ownsRow base 45 17 (.slice (some ⟨g, 0, none⟩) (ds.length + 1) cap) (ds.length + 1) (ds.flatMap Dc.cells ++ d.cells)) : Row w8 w8.heap.size (some ⟨g, 0, none⟩) ((ds ++ [d]).flatMap Dc.cells) := by
  have := (RowS.of_own h (by decide)).row
  rw [List.flatMap_append, List.flatMap_cons, List.flatMap_nil, List.append_nil]
  exact this
theorem lg_a {w w3 w8 : World} {ds : List Dc} {d : Dc} {A : Option Addr} {c g cap : Nat} {ob : Obj} (b : Below w.heap.size w w3) (ho : w3.ownsRow w.heap.size 45 17 (.slice A ds.length c) ds.length (ds.flatMap Dc.cells)) (hg : (w3.alloc ob).grownBy w8 (Value.slice A ds.length c).ownBlock)
    (h8 : w8.ownsRow w.heap.size 45 17 (.slice (some ⟨g, 0, none⟩) (ds.length + 1) cap) (ds.length + 1) (ds.flatMap Dc.cells ++ d.cells)) : LgR w w8 ds d g :=
  ⟨lg_row h8, (b.alloc b.size ob).grown hg (by rw [World.size_alloc]; have := b.size; omega) (fun k e => (own_ge ho e).1)⟩
theorem lg_b {w w3 w8 : World} {ds : List Dc} {d : Dc} {A : Option Addr} {c g cap : Nat} (b : Below w.heap.size w w3) (ho : w3.ownsRow w.heap.size 45 17 (.slice A ds.length c) ds.length (ds.flatMap Dc.cells)) (hg : w3.grownBy w8 (Value.slice A ds.length c).ownBlock)
    (h8 : w8.ownsRow w.heap.size 45 17 (.slice (some ⟨g, 0, none⟩) (ds.length + 1) cap) (ds.length + 1) (ds.flatMap Dc.cells ++ d.cells)) : LgR w w8 ds d g :=
  ⟨lg_row h8, b.grown hg b.size (fun k e => (own_ge ho e).1)⟩
theorem dc_cells (w : World) (d : Dc) (T : TypeId) : ∀ j u, d.cells[j]? = some u → (w.alloc (.cells d.box T)).cell? ((⟨w.heap.size, 0, none⟩ : Addr).add j) = some u := fun j u hu => by
  rw [Go.WideShapes.add_plain, Nat.zero_add]
  exact (Blk.new_ w d.box T).c j (by show d.cells.toArray[j]? = some u; simpa using hu)
theorem dc_cells_at {w' : World} {d : Dc} {b : Nat} (h : Blk w' b d.box) : ∀ j u, d.cells[j]? = some u → w'.cell? ((⟨b, 0, none⟩ : Addr).add j) = some u := fun j u hu => by
  rw [Go.WideShapes.add_plain, Nat.zero_add]
  exact h.c j (by show d.cells.toArray[j]? = some u; simpa using hu)
theorem dc_one' (d : Dc) : ∀ u ∈ d.cells, u.oneCell' = true := fun u hu => dc_one (l := [d]) (by simpa using hu)
set_option maxRecDepth 100000 in
set_option maxHeartbeats 40000000 in
theorem expanded_start (ds : List Dc) (A : Option Addr) (c : Nat) (e f : G) (w : World) (hl : Dc.L w w.heap.size A ds) (he : G.In w w.heap.size e) (hf : G.In w w.heap.size f) (hT : Tb w.heap.size w) :
    Calls Tryz.prog 5 #[.slice A ds.length c, e.val, f.val] w fun r w' => r = .returned (.bool true) ∧ Below w.heap.size w w' := by
  have X := QW.start w e f 26 26
  have HT := Lib.hid (fun W (i : Below w.heap.size w W) => hT.at i)
  have F0 := Lib.hid (fun W (i : QW w W e f) => fewDecls_any ds A c W (hl.at i.bel))
  have F1 := Lib.hid (fun W (i : QW w W e f) => few_any e W (he.at i.bel))
  have F2 := Lib.hid (fun W (i : QW w W e f) => few_any f W (hf.at i.bel))
  have X1 := Lib.hid (fun (hn : ds.length ≤ 900) W (i : QW w W e f) => expandAll_any ds A c e W (hl.at i.bel) (he.at i.bel) (hT.at i.bel) (by omega))
  have X2 := Lib.hid (fun (hn : ds.length ≤ 900) (x : G) W (i : Below w.heap.size w W) (hx : G.In W W.heap.size x) => expandAll_any ds A c x W (hl.at i) hx (hT.at i) (by omega))
  have XC := Lib.hid (fun (hn : ds.length ≤ 900) W (i : Below w.heap.size w W) => dclone_any ds A c W (hl.at i) (by omega))
  have XU := Lib.hid (fun W (i : Below w.heap.size w W) => uncontains_any ds A c W (hl.at i))
  have X3 := Lib.hid (fun (hn : ds.length ≤ 900) W (i : Below w.heap.size w W) => expandAll_any ds A c f W (hl.at i) (hf.at i) (hT.at i) (by omega))
  have XL := Lib.hid (fun (hn : ds.length ≤ 900) (g cc : Nat) W (i : Below w.heap.size w W) (hr : Row W W.heap.size (some ⟨g, 0, none⟩) ((ds ++ [dn f]).flatMap Dc.cells)) =>
    expandAll_any (ds ++ [dn f]) (some ⟨g, 0, none⟩) cc e W ⟨by rw [List.length_append]; show ds.length + 1 ≤ _; omega, hr, fun d hd => by
      rcases List.mem_append.1 hd with hd | hd
      · exact (hl.at i).all d hd
      · obtain rfl := List.mem_singleton.1 hd
        exact ⟨inI_small (by show (-1000 : Int) ≤ 0; omega) (by show (0 : Int) ≤ 1000; omega), by show (10 : Nat) ≤ 9223372036854775807; omega, hf.at i⟩⟩ (he.at i) (hT.at i) (by rw [List.length_append]; show ds.length + 1 ≤ _; omega))
  have HN := Lib.hid (show fewDs ds = true → ds.length ≤ 900 from fun h => by unfold fewDs at h; rw [Bool.and_eq_true, decide_eq_true_eq] at h; omega)
  obtain ⟨y, hy⟩ : ∃ y, Hid (G.expD nmB ds e = y) := ⟨_, Lib.hid rfl⟩
  have HZ := Lib.hid (fun x (h : y.2 ≠ 0) (hx : x.bare = y.1) => ex_zero (ds := ds) (t := e) (x := x) (by rw [hy.out]; exact h) (by rw [hy.out]; exact hx))
  have HS := Lib.hid (fun x (h : y.2 = 0) (hx : x.bare = y.1) => ex_self (ds := ds) (t := e) (x := x) (by rw [hy.out]; exact h) (by rw [hy.out]; exact hx))
  rw [hy.out] at X1
  clear hl he hf hT
  go_enter Tryz.func5, Tryz.ntmps5
  go_upto_region 1 with (fail)
  revert X
  generalize (w.alloc (.cells #[.int .i64 e.kd, .int .i64 e.lo, .int .i64 e.hi, .int .i64 e.sz, .string e.nm, .slice e.na e.ns.length e.nc, .slice e.ad e.ks.length e.cap] 26)).alloc (.cells #[.int .i64 f.kd, .int .i64 f.lo, .int .i64 f.hi, .int .i64 f.sz, .string f.nm, .slice f.na f.ns.length f.nc, .slice f.ad f.ks.length f.cap] 26) = w1
  intro X
  go_wp2_with fail
  refine (known_any _ (HT.out _ X.bel)).mono ?_
  rintro r w2 ⟨rfl, b2⟩
  replace X := X.below b2
  clear b2
  go_wp2_with fail
  refine (F0.out _ X).mono ?_
  rintro r w3 ⟨rfl, b3⟩
  replace X := X.below b3
  clear b3 F0
  obtain ⟨k0, k1, k2, k3, k4, k5, k6⟩ := bx7 X.be
  cases h0 : fewDs ds with
  | false =>
    have b4 := X.bel
    clear h0
    go_wp2_with fail
    go_ret
    exact ⟨rfl, b4⟩
  | true =>
    have hn := Lib.hid (HN.out h0)
    clear h0 HN
    go_wp2_with fail
    refine (F1.out _ X).mono ?_
    rintro r w4 ⟨rfl, b4⟩
    replace X := X.below b4
    clear b4 F1 k0 k1 k2 k3 k4 k5 k6
    obtain ⟨m0, m1, m2, m3, m4, m5, m6⟩ := bx7 X.bf
    cases h1 : fewB e with
    | false =>
      have b4 := X.bel
      clear h1
      go_wp2_with fail
      go_ret
      exact ⟨rfl, b4⟩
    | true =>
      clear h1
      go_wp2_with fail
      refine (F2.out _ X).mono ?_
      rintro r w5 ⟨rfl, b5⟩
      replace X := X.below b5
      clear b5 F2 m0 m1 m2 m3 m4 m5 m6
      cases h2 : fewB f with
      | false =>
        have b4 := X.bel
        clear h2
        go_wp2_with fail
        go_ret
        exact ⟨rfl, b4⟩
      | true =>
        clear h2
        obtain ⟨k0, k1, k2, k3, k4, k5, k6⟩ := bx7 X.be
        go_wp2_with fail
        refine (X1.out hn.out _ X).mono ?_
        rintro r w6 ⟨x, rfl, hx, hxb, b6⟩
        replace X := X.below b6
        have b7 := al1 w6 (.cells x.box 26)
        have BX := Blk.new_ w6 x.box 26
        replace X := X.below b7
        have hxi := hx.in_.at b7
        clear b6 X1 k0 k1 k2 k3 k4 k5 k6
        by_cases hy2 : y.2 = 0
        case neg =>
          have q2 : (y.2 != 0) = true := by simpa using hy2
          have HE := Lib.hid (requal_any x G.zero _ hxi (zero_lies _ _))
          rw [HZ.out x hy2 hxb] at HE
          have b8 := X.bel
          clear hy2 HZ HS hx hxb hy
          go_wp2_with fail
          refine HE.out.mono ?_
          rintro r w8 ⟨rfl, b9⟩
          have b10 := bTrans b8 b9
          go_wp2_with fail
          go_ret
          exact ⟨rfl, b10⟩
        case pos =>
          have q2 : (y.2 != 0) = false := by rw [hy2]; rfl
          obtain ⟨hself, hck⟩ := HS.out x hy2 hxb
          have C8 := Lib.hid (X2.out hn.out x _ X.bel hxi)
          rw [hself] at C8
          have HCk := Lib.hid (fun W (i : Below (w6.alloc (.cells x.box 26)).heap.size (w6.alloc (.cells x.box 26)) W) => tcheck_any x W (hxi.at i) (HT.out _ (bTrans X.bel i)))
          rw [hck] at HCk
          have HEq := Lib.hid (fun x2 W (i : Below (w6.alloc (.cells x.box 26)).heap.size (w6.alloc (.cells x.box 26)) W) (hx2 : G.In W W.heap.size x2) => tequal_any x x2 W (hxi.at i) hx2)
          have HY := Lib.hid (show y = (x.bare, 0) from by rw [hxb, ← hy2])
          obtain ⟨k0, k1, k2, k3, k4, k5, k6⟩ := box_cells BX
          clear hself hck HZ HS hxb hx hy2
          go_wp2_with fail
          refine C8.out.mono ?_
          rintro r w8 ⟨x2, rfl, hx2, hx2b, b8⟩
          have b9 := al1 w8 (.cells x2.box 26)
          have BX2 := Blk.new_ w8 x2.box 26
          have b89 := bTrans b8 b9
          replace X := X.below b89
          replace BX := BX.below b89 BX.lt
          have hx2i := hx2.in_.at b9
          have HE2 := Lib.hid (fun W i h => by have := HEq.out x2 W i h; rw [ex_eq hx2b] at this; exact this)
          clear C8 HEq b8 hx2b k0 k1 k2 k3 k4 k5 k6
          obtain ⟨k0, k1, k2, k3, k4, k5, k6⟩ := box_cells BX
          go_wp2_with fail
          refine (HCk.out _ b89).mono ?_
          rintro r w10 ⟨rfl, b10⟩
          have b810 := bTrans b89 b10
          replace X := X.below b10
          replace BX := BX.below b10 BX.lt
          replace BX2 := BX2.below b10 BX2.lt
          clear HCk k0 k1 k2 k3 k4 k5 k6
          obtain ⟨k0, k1, k2, k3, k4, k5, k6⟩ := box_cells BX
          obtain ⟨m0, m1, m2, m3, m4, m5, m6⟩ := box_cells BX2
          go_wp2_with fail
          refine (HE2.out _ b810 (hx2i.at b10)).mono ?_
          rintro r w11 ⟨rfl, b11⟩
          have b812 := bTrans b810 b11
          replace X := X.below b11
          replace BX := BX.below b11 BX.lt
          clear HE2 k0 k1 k2 k3 k4 k5 k6 m0 m1 m2 m3 m4 m5 m6 BX2 b810 b10 b89 b9
          obtain ⟨k0, k1, k2, k3, k4, k5, k6⟩ := box_cells BX
          obtain ⟨m0, m1, m2, m3, m4, m5, m6⟩ := bx7 X.bf
          go_upto_region 11 with (fail)
          have HCl := Lib.hid (fun W (i : Below w11.heap.size w11 W) => XC.out hn.out W (bTrans X.bel i))
          go_cut [11] (fun s11 wx => ∃ g cc, s11 = .slice (some ⟨g, 0, none⟩) (ds.length + 1) cc ∧ LgR w11 wx ds (dn f) g)
          case first =>
            obtain ⟨i0, hi0, hz0, hz1, hz2⟩ := info_parts infoDc
            have Xd := X.below (show Below w11.heap.size w11 w11.drew from (Below.refl _ _).drew)
            obtain ⟨m0, m1, m2, m3, m4, m5, m6⟩ := bx7 Xd.bf
            have bd : Below w11.heap.size w11 w11.drew := (Below.refl _ _).drew
            have HA := Lib.hid (HCl.out w11.drew bd)
            have be : Below w11.heap.size w11 (w11.alloc (.cells (dn f).box 45)).drew := (al1 w11 _).drew
            have HB := Lib.hid (HCl.out (w11.alloc (.cells (dn f).box 45)).drew be)
            unfold NewDs at HA HB
            have hn9 := hn.out
            go_region_law (first
              | (refine step_append_lies _ (by rfl) _ _ 32 (by rfl) w11.heap.size 45 i0 (.agg #[.int .i64 0, .string ⟨#[]⟩, .int .i64 0, .int .i64 0, .int .i64 0, .int .i64 0, .string ⟨#[]⟩, .slice none 0 0, .slice none 0 0, .int .i64 0, .int .i64 0, .int .i64 0, .string ⟨#[]⟩, .slice none 0 0, .slice none 0 0, .slice none 0 0, .slice none 0 0]) 17 256 Tryz.underlying32 hi0 hz0 hz1 hz2 rfl (by decide) (.slice A3 ds.length c3) ds.length (ds.flatMap Dc.cells) (by rfl) (ho3.alloc _) ⟨w3.heap.size, 0, none⟩ 1 1 (dn f).cells (by rfl) (by rfl) (dc_cells w3 (dn f) 45) (dc_one' _) (by decide) (by unfold maxLen; omega) (by omega) (by rw [World.size_alloc]; omega) _ rfl ?_; intro g cap w8 hown8 hgrow hat hlt8; have J := lg_a bb3 ho3 hgrow hown8)
              | (go_simp; go_at_call 19; (with_reducible refine HA.out.mono ?_); rintro r w3 ⟨A3, c3, rfl, o3, b3⟩; have bb3 : Below w11.heap.size w11 w3 := bTrans bd b3; have ho3 : w3.ownsRow w11.heap.size 45 17 (.slice A3 ds.length c3) ds.length (ds.flatMap Dc.cells) := o3; have hs3 := bb3.size; obtain ⟨q0, q1, q2, q3, q4, q5, q6⟩ := bx7 (Xd.below b3).bf)
              | (go_simp; go_at_call 19; (refine HB.out.mono ?_); rintro r w3 ⟨A3, c3, rfl, o3, b3⟩; have bb3 : Below w11.heap.size w11 w3 := bTrans be b3; have ho3 : w3.ownsRow w11.heap.size 45 17 (.slice A3 ds.length c3) ds.length (ds.flatMap Dc.cells) := own_mono2 o3 be.size; have hs3 := bb3.size; have BB := (Blk.new_ w11 (dn f).box 45).drew.below b3 (Blk.new_ w11 (dn f).box 45).drew.lt)
              | (refine step_append_lies _ (by rfl) _ _ 32 (by rfl) w11.heap.size 45 i0 (.agg #[.int .i64 0, .string ⟨#[]⟩, .int .i64 0, .int .i64 0, .int .i64 0, .int .i64 0, .string ⟨#[]⟩, .slice none 0 0, .slice none 0 0, .int .i64 0, .int .i64 0, .int .i64 0, .string ⟨#[]⟩, .slice none 0 0, .slice none 0 0, .slice none 0 0, .slice none 0 0]) 17 256 Tryz.underlying32 hi0 hz0 hz1 hz2 rfl (by decide) (.slice A3 ds.length c3) ds.length (ds.flatMap Dc.cells) (by rfl) ho3 ⟨w11.heap.size, 0, none⟩ 1 1 (dn f).cells (by rfl) (by rfl) (dc_cells_at BB) (dc_one' _) (by decide) (by unfold maxLen; omega) (by omega) hs3 _ rfl ?_; intro g cap w8 hown8 hgrow hat hlt8; have J := lg_b bb3 ho3 hgrow hown8))
            all_goals
              clear hown8 hgrow hat
              go_wp2_with fail
              go_meet
              exact ⟨g, cap, rfl, J⟩
          case rest =>
            obtain ⟨g, cc, rfl, L12⟩ := hcut
            obtain ⟨w12, rfl⟩ := L12.name
            have HU := Lib.hid (XU.out _ (bTrans X.bel L12.bel))
            have Bx := bTrans b812 L12.bel
            replace X := X.below L12.bel
            replace BX := BX.below L12.bel BX.lt
            have R12 := L12.row
            clear k0 k1 k2 k3 k4 k5 k6 m0 m1 m2 m3 m4 m5 m6 L12 HCl XC XU
            cases hun : ds.any isUn with
            | true =>
              rw [hun] at HU
              have b12 := X.bel
              clear hun HY hy R12
              go_wp2_with fail
              refine HU.out.mono ?_
              rintro r w13 ⟨rfl, b13⟩
              go_wp2_with fail
              go_ret
              exact ⟨rfl, bTrans b12 b13⟩
            | false =>
              rw [hun] at HU
              have hm := ex_more (e := e) (f := f) hun (by rw [hy.out, HY.out])
              rw [hy.out] at hm
              have X3' := X3.out hn.out
              have XL' := XL.out hn.out g cc
              clear X3 XL
              obtain ⟨M, hM⟩ : ∃ M, Hid (G.expD nmB ds f = M) := ⟨_, Lib.hid rfl⟩
              obtain ⟨N, hN⟩ : ∃ N, Hid (G.expD nmB (ds ++ [dn f]) e = N) := ⟨_, Lib.hid rfl⟩
              obtain ⟨n9, hn9⟩ : ∃ n, Hid ((ds ++ [dn f]).length = n) := ⟨_, Lib.hid rfl⟩
              have hn9' : Hid (n9 = ds.length + 1) := Lib.hid (by rw [← hn9.out, List.length_append]; rfl)
              rw [hM.out, hN.out] at hm
              rw [hM.out] at X3'
              rw [hN.out, hn9.out] at XL'
              obtain ⟨hm1, hm2⟩ := hm
              have HM1 := Lib.hid hm1
              have HM2 := Lib.hid (fun h => (hm2 h).trans HY.out)
              have X3 := Lib.hid X3'
              rw [hn9'.out] at XL'
              have XL := Lib.hid XL'
              clear hm1 hm2 X3' XL' hun HY hy hM hN hn9 hn9'
              go_wp2_with fail
              refine HU.out.mono ?_
              rintro r w13 ⟨rfl, b13⟩
              replace X := X.below b13
              replace Bx := bTrans Bx b13
              replace BX := BX.below b13 BX.lt
              replace R12 := (R12.below b13).more b13.size
              clear HU b13
              obtain ⟨m0, m1, m2, m3, m4, m5, m6⟩ := bx7 X.bf
              go_wp2_with fail
              refine (X3.out _ X.bel).mono ?_
              rintro r w14 ⟨u, rfl, hu, hub, b14⟩
              have bu := bTrans b14 (al1 w14 (.cells u.box 26))
              replace X := X.below bu
              replace Bx := bTrans Bx bu
              replace BX := BX.below bu BX.lt
              replace R12 := (R12.below bu).more bu.size
              clear X3 hu hub b14 bu m0 m1 m2 m3 m4 m5 m6
              obtain ⟨k0, k1, k2, k3, k4, k5, k6⟩ := bx7 X.be
              go_wp2_with fail
              refine (XL.out _ X.bel R12).mono ?_
              rintro r w15 ⟨z, rfl, hz, hzb, b15⟩
              have b16 := bTrans b15 (al1 w15 (.cells z.box 26))
              have BZ := Blk.new_ w15 z.box 26
              have hzi := hz.in_.at (al1 w15 (.cells z.box 26))
              replace X := X.below b16
              replace Bx := bTrans Bx b16
              replace BX := BX.below b16 BX.lt
              have bw := X.bel
              clear XL R12 k0 k1 k2 k3 k4 k5 k6 b15 b16 hz
              by_cases hM : M.2 = 0
              case neg =>
                have q1 : (M.2 != 0) = true := by simpa using hM
                have q2 : (N.2 == M.2) = true := by rw [HM1.out hM]; exact beq_self_eq_true _
                clear hM HM1 HM2 hzb
                go_wp2_with fail
                go_ret
                exact ⟨rfl, bw⟩
              case pos =>
                have q1 : (M.2 != 0) = false := by rw [hM]; rfl
                have q2 : (M.2 == 0) = true := by rw [hM]; rfl
                have hN := HM2.out hM
                have q3 : (N.2 == 0) = true := by rw [hN]; rfl
                have HEq := Lib.hid (tequal_any x z _ (hxi.at Bx) hzi)
                rw [ex_eq (show z.bare = x.bare by rw [hzb, hN])] at HEq
                obtain ⟨k0, k1, k2, k3, k4, k5, k6⟩ := box_cells BX
                obtain ⟨m0, m1, m2, m3, m4, m5, m6⟩ := box_cells BZ
                clear hM HM1 HM2 hzb hN
                go_wp2_with fail
                refine HEq.out.mono ?_
                rintro r w17 ⟨rfl, b17⟩
                have b18 := bTrans bw b17
                go_wp2_with fail
                go_ret
                exact ⟨rfl, b18⟩
theorem expanded_walk (A : Option Addr) (ds : List Dc) (c : Nat) (e f : G) (w : World) (hl : Dc.L w w.heap.size A ds) (he : G.In w w.heap.size e) (hf : G.In w w.heap.size f) (hT : Tb w.heap.size w) :
    Calls Tryz.prog 5 #[.slice A ds.length c, e.val, f.val] w fun r w' => r = .returned (.bool true) ∧ Below w.heap.size w w' := expanded_start ds A c e f w hl he hf hT
end Go.Proofs.YtlpnbcdnlbghdaaGreatDoor
