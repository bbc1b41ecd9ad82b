/- Walks: Contains of package types; slices.Equal of numbers. -/
import Derived.Test.YtlifnabeilnblaaGreatDoorVa
import Derived.Deep.RegionLaw
namespace Go.Proofs.YtlifnabeilnblaaGreatDoor
open Go.RowKit Go.Sort
set_option linter.unusedVariables false

/-- numbers as values -/
def zvals (zs : List Int) : List Value := zs.map fun x => Value.int .i64 x
theorem zvals_len (zs : List Int) : (zvals zs).length = zs.length := by simp [zvals]
/-- numbers in memory -/
structure Zs (w : World) (B : Nat) (A : Option Addr) (zs : List Int) : Prop where
  row : Row w B A (zvals zs)
  len : zs.length ≤ 9223372036854775807
  all : ∀ z ∈ zs, inI z
theorem Zs.below {w w' : World} {B : Nat} {A : Option Addr} {zs : List Int} (h : Zs w B A zs) (hb : Below B w w') : Zs w' B A zs := ⟨h.row.below hb, h.len, h.all⟩
theorem Zs.more {w : World} {B B' : Nat} {A : Option Addr} {zs : List Int} (h : Zs w B A zs) (hB : B ≤ B') : Zs w B' A zs := ⟨h.row.more hB, h.len, h.all⟩
theorem Zs.at {w w' : World} {A : Option Addr} {zs : List Int} (h : Zs w w.heap.size A zs) (hb : Below w.heap.size w w') : Zs w' w'.heap.size A zs := (h.below hb).more hb.size
theorem Zs.at_ {w : World} {B : Nat} {A : Option Addr} {zs : List Int} (h : Zs w B A zs) {i : Nat} (hi : i < zs.length) : ∃ b off z, A = some ⟨b, off, none⟩ ∧ b < B ∧ zs[i]? = some z ∧ w.cell? ⟨b, off + i, none⟩ = some (.int .i64 z) ∧ inI z := by
  obtain ⟨b, off, e, hb, hc⟩ := h.row.cells (by rw [zvals_len]; omega)
  exact ⟨b, off, zs[i], e, hb, List.getElem?_eq_getElem hi, hc i _ (by unfold zvals; rw [List.getElem?_map, List.getElem?_eq_getElem hi]; rfl), h.all _ (List.getElem_mem hi)⟩
def inB (z : Int) (s : Sl) : Bool := decide (s.lo ≤ z) && decide (z ≤ s.hi)
/-- does each number lie within its scalar? -/
def allIn : List Int → List Sl → Bool
  | z :: zs, s :: ys => inB z s && allIn zs ys
  | _, _ => true
/-- Contains -/
def conB (y : List Sl × Int) (zs : List Int) : Bool := decide (y.2 = 0) && decide (zs.length = y.1.length) && allIn zs y.1
theorem allIn_bad {zs : List Int} {ys : List Sl} {i : Nat} {z : Int} {s : Sl} (hz : zs[i]? = some z) (hs : ys[i]? = some s) (h : inB z s = false) : allIn zs ys = false := by
  induction zs generalizing ys i with
  | nil => simp at hz
  | cons a zs ih => cases ys with
    | nil => simp at hs
    | cons b ys =>
      cases i with
      | zero =>
        simp at hz hs; subst hz hs
        rw [allIn, h]; rfl
      | succ i =>
        simp at hz hs
        rw [allIn, ih hz hs, Bool.and_false]
theorem allIn_good {zs : List Int} {ys : List Sl} (h : ∀ i, i < ys.length → ∀ z s, zs[i]? = some z → ys[i]? = some s → inB z s = true) : allIn zs ys = true := by
  induction zs generalizing ys with
  | nil => cases ys <;> rfl
  | cons a zs ih => cases ys with
    | nil => rfl
    | cons b ys =>
      rw [allIn, h 0 (by simp) a b (by simp) (by simp), ih fun i hi z s hz hs => h (i + 1) (by simpa using hi) z s (by simpa using hz) (by simpa using hs)]; rfl
set_option maxRecDepth 100000 in
set_option maxHeartbeats 2000000 in
theorem contains_any (e : G) (zs : List Int) (ZA : Option Addr) (zc : Nat) (w : World) (hin : G.In w w.heap.size e) (hz : Zs w w.heap.size ZA zs) (hT : Tb w.heap.size w) :
    Calls Tryz.prog 17 #[e.val, .slice ZA zs.length zc] w fun r w' => r = .returned (.bool (conB (G.scalR nmB e) zs)) ∧ Below w.heap.size w w' := by
  have X := Eb.start w e 26
  have C1 := Lib.hid (fun W (i : Eb w W e) => scalars_any e W (hin.at i.bel) (hT.at i.bel))
  obtain ⟨hlen, hok⟩ := G.scalR_ok (nmB := nmB) e
  obtain ⟨y, hy⟩ : ∃ y, Hid (G.scalR nmB e = y) := ⟨_, Lib.hid rfl⟩
  rw [hy.out] at C1 hlen ⊢
  obtain ⟨ys, c⟩ := y
  have HR : Hid (conB (ys, c) zs = (decide (c = 0) && decide (zs.length = ys.length) && allIn zs ys)) := Lib.hid rfl
  obtain ⟨q, hq⟩ : ∃ q, Hid (conB (ys, c) zs = q) := ⟨_, Lib.hid rfl⟩
  rw [hq.out] at HR ⊢
  have hzl := hz.len
  clear hy hq hT hin hok
  go_enter Tryz.func17, Tryz.ntmps17
  go_upto_region 1 with (fail)
  revert X
  generalize w.alloc (.cells #[.int .i64 e.kd, .int .i64 e.lo, .int .i64 e.hi, .int .i64 e.sz, .string e.nm, .slice e.na e.ns.length e.nc, .slice e.ad e.ks.length e.cap] 26) = w1
  intro X
  obtain ⟨k0, k1, k2, k3, k4, k5, k6⟩ := box_cells X.be
  go_wp2_with fail
  refine (C1.out _ X).mono ?_
  rintro r w2 ⟨A, c', rfl, hr, b2⟩
  replace X := X.below b2
  have hrow := Lib.hid hr.row
  clear k0 k1 k2 k3 k4 k5 k6 b2 C1 hr
  have bl := X.bel
  have hz2 := hz.at bl
  clear X
  dsimp only at hlen hrow
  by_cases h0 : c = 0
  · have q0 : (c != 0) = false := by rw [h0]; rfl
    by_cases hll : zs.length = ys.length
    · have hlI : (((zs.length : Nat) : Int) != ((ys.length : Nat) : Int)) = false := by rw [hll]; simp
      have HR2 : Hid (q = allIn zs ys) := Lib.hid (by rw [HR.out, decide_eq_true h0, decide_eq_true hll]; rfl)
      obtain ⟨n, hn⟩ : ∃ n, Hid (ys.length = n) := ⟨_, Lib.hid rfl⟩
      have hn2 : Hid (zs.length = n) := Lib.hid (by rw [hll, hn.out])
      rw [hn.out] at hlen
      have hl1 := hn.out
      have hl2 := hn2.out
      clear HR h0 hll hlI hzl hz
      go_wp2_with fail
      clear hl1 hl2
      go_loopw [25] (fun iv wr => ∃ (i : Nat), i ≤ n ∧ iv = .int .i64 i ∧ Hid (∀ k, k < i → ∀ z s, zs[k]? = some z → ys[k]? = some s → inB z s = true) ∧ Below w2.heap.size w2 wr) (fun iv _ => n - (intOf iv).toNat)
      case atStart => exact ⟨0, Nat.zero_le _, rfl, Lib.hid (fun k hk => absurd hk (Nat.not_lt_zero _)), Below.refl _ _⟩
      case round =>
        obtain ⟨i, hi, rfl, hg, Y⟩ := hrel
        by_cases hlt : i < n
        · obtain ⟨b, off, s, rfl, hb, hsi, d0, d1, d2, d3⟩ := sl_at (hrow.out.below Y) (show i < ys.length by rw [hn.out]; exact hlt)
          obtain ⟨zb, zoff, z, rfl, hzb, hzi, ez, hzI⟩ := (hz2.below Y).at_ (show i < zs.length by rw [hn2.out]; exact hlt)
          have HB := Lib.hid (fun h => allIn_bad hzi hsi h)
          have HG := Lib.hid (fun (h : inB z s = true) k (hk : k < i + 1) z' s' (h1 : zs[k]? = some z') (h2 : ys[k]? = some s') => show inB z' s' = true by
            by_cases hki : k = i
            · subst hki
              rw [hzi] at h1; rw [hsi] at h2
              cases h1; cases h2; exact h
            · exact hg.out k (by omega) z' s' h1 h2)
          obtain ⟨sp, sb, lo, hi2⟩ := s
          dsimp only at d0 d1 d2 d3
          have Y2 := Y.alloc Y.size (.cells #[.string sp, .bool sb, .int .i64 lo, .int .i64 hi2] 39)
          have hinB : inB z ⟨sp, sb, lo, hi2⟩ = (decide (lo ≤ z) && decide (z ≤ hi2)) := rfl
          have ez2 : (wr.alloc (.cells #[.string sp, .bool sb, .int .i64 lo, .int .i64 hi2] 39)).cell? ⟨zb, zoff + i, none⟩ = some (.int .i64 z) := (World.cell?_alloc_lt _ _ _ (Nat.lt_of_lt_of_le hzb Y.size)).trans ez
          clear hsi hzi hg
          by_cases hlo : z < lo
          · have HQ : Hid (false = q) := Lib.hid (by rw [HR2.out, HB.out (by rw [hinB, decide_eq_false (by omega)]; rfl)])
            clear HB HG hinB HR2
            go_wp2_with fail
            go_quiet (fail)
            go_wp2_with fail
            go_ret
            exact ⟨ret_bool HQ.out, bDrew (bTrans bl Y2) _⟩
          · by_cases hhi : hi2 < z
            · have HQ : Hid (false = q) := Lib.hid (by rw [HR2.out, HB.out (by rw [hinB, decide_eq_false (show ¬ z ≤ hi2 by omega), Bool.and_false])])
              clear HB HG hinB HR2
              go_wp2_with fail
              go_quiet (fail)
              go_wp2_with fail
              go_ret
              exact ⟨ret_bool HQ.out, bDrew (bTrans bl Y2) _⟩
            · have HG2 := Lib.hid (HG.out (by rw [hinB, decide_eq_true (by omega), decide_eq_true (by omega)]; rfl))
              clear HB HG hinB
              go_wp2_with fail
              go_quiet (fail)
              go_wp2_with fail
              go_roundw
              case rel => exact ⟨i + 1, by omega, by go_num, HG2, bDrew Y2 _⟩
              case measure => simp [intOf]; omega
        · obtain rfl : i = n := by omega
          have HQ : Hid (true = q) := Lib.hid (by rw [HR2.out, allIn_good fun k hk => hg.out k (by rw [← hn.out]; exact hk)])
          go_wp2_with fail
          go_ret
          exact ⟨ret_bool HQ.out, bTrans bl Y⟩
    · have hlI : (((zs.length : Nat) : Int) != ((ys.length : Nat) : Int)) = true := by simp; omega
      have HQ : Hid (false = q) := Lib.hid (by rw [HR.out, decide_eq_false hll]; simp)
      clear HR h0 hll
      go_wp2_with fail
      go_ret
      exact ⟨ret_bool HQ.out, bl⟩
  · have q0 : (c != 0) = true := by simpa using h0
    have HQ : Hid (false = q) := Lib.hid (by rw [HR.out, decide_eq_false h0]; rfl)
    clear HR h0
    go_wp2_with fail
    go_ret
    exact ⟨ret_bool HQ.out, bl⟩
theorem zlist_ne {a b : List Int} {i : Nat} {x y : Int} (ha : a[i]? = some x) (hb : b[i]? = some y) (h : x ≠ y) : decide (a = b) = false := by
  rw [decide_eq_false_iff_not]; rintro rfl
  rw [ha] at hb; cases hb; exact h rfl
theorem zlist_eq {a b : List Int} (hl : a.length = b.length) (h : ∀ i, i < a.length → ∀ x y, a[i]? = some x → b[i]? = some y → x = y) : decide (a = b) = true := by
  rw [decide_eq_true_eq]
  exact List.ext_getElem hl fun i h1 h2 => h i h1 _ _ (List.getElem?_eq_getElem h1) (List.getElem?_eq_getElem h2)
set_option maxRecDepth 100000 in
set_option maxHeartbeats 1000000 in
theorem zequal_any (a b : List Int) (A B : Option Addr) (ca cb : Nat) (w : World) (ha : Zs w w.heap.size A a) (hb : Zs w w.heap.size B b) :
    Calls Tryz.prog 16 #[.slice A a.length ca, .slice B b.length cb] w fun r w' => r = .returned (.bool (decide (a = b))) ∧ Below w.heap.size w w' := by
  have hla := ha.len
  have hlb := hb.len
  by_cases hl : a.length = b.length
  · have HL := Lib.hid hl
    have X : Below w.heap.size w w := Below.refl _ _
    obtain ⟨n, hn⟩ : ∃ n, Hid (a.length = n) := ⟨_, Lib.hid rfl⟩
    have hn' : Hid (b.length = n) := Lib.hid (by rw [← hn.out, hl])
    rw [hn.out] at hla
    rw [hn'.out] at hlb
    rw [hn.out, hn'.out]
    clear hl
    go_enter Tryz.func16, Tryz.ntmps16
    go_wp2_with fail
    go_loopw [13] (fun iv wr => ∃ i : Nat, i ≤ n ∧ iv = .int .i64 i ∧ Hid (∀ k, k < i → ∀ x y, a[k]? = some x → b[k]? = some y → x = y) ∧ Below w.heap.size w wr) (fun iv _ => n - (intOf iv).toNat)
    case atStart => exact ⟨0, Nat.zero_le _, rfl, Lib.hid (fun k hk => absurd hk (Nat.not_lt_zero _)), X⟩
    case round =>
      clear X
      obtain ⟨i, hi, rfl, hg, Y⟩ := hrel
      by_cases hlt : i < n
      · obtain ⟨ab, ao, x, rfl, hab, hax, ex, _⟩ := (ha.below Y).at_ (show i < a.length by rw [hn.out]; exact hlt)
        obtain ⟨bb, bo, y, rfl, hbb, hby, ey, _⟩ := (hb.below Y).at_ (show i < b.length by rw [hn'.out]; exact hlt)
        have HB := Lib.hid (fun h => zlist_ne hax hby h)
        have HG := Lib.hid (fun (h : x = y) k (hk : k < i + 1) x' y' (h1 : a[k]? = some x') (h2 : b[k]? = some y') => show x' = y' by
          by_cases hki : k = i
          · subst hki
            rw [hax] at h1; rw [hby] at h2
            cases h1; cases h2; exact h
          · exact hg.out k (by omega) x' y' h1 h2)
        clear hax hby hg
        by_cases hxy : x = y
        · have q1 : (x != y) = false := by simp; omega
          have HG2 := Lib.hid (HG.out hxy)
          clear hxy HB HG
          go_wp2_with fail
          go_quiet (fail)
          go_wp2_with fail
          go_roundw
          case rel => exact ⟨i + 1, by omega, by go_num, HG2, bDrew Y _⟩
          case measure => simp [intOf]; omega
        · have q1 : (x != y) = true := by simpa using hxy
          have HR := Lib.hid (HB.out hxy)
          clear hxy HB HG
          go_wp2_with fail
          go_quiet (fail)
          go_wp2_with fail
          go_ret
          exact ⟨ret_bool HR.out.symm, bDrew Y _⟩
      · obtain rfl : i = n := by omega
        have HR := Lib.hid (zlist_eq HL.out fun k hk => hg.out k (by rw [← hn.out]; exact hk))
        go_wp2_with fail
        go_ret
        exact ⟨ret_bool HR.out.symm, Y⟩
  · have hlI : (((a.length : Nat) : Int) != ((b.length : Nat) : Int)) = true := by simp; omega
    have HR : Hid (decide (a = b) = false) := Lib.hid (by rw [decide_eq_false_iff_not]; rintro rfl; exact hl rfl)
    clear hl
    go_enter Tryz.func16, Tryz.ntmps16
    go_wp2_with fail
    go_ret
    exact ⟨ret_bool HR.out.symm, Below.refl _ _⟩
end Go.Proofs.YtlifnabeilnblaaGreatDoor
/- Walks: Clamp of package types. -/
namespace Go.Proofs.YtlifnabeilnblaaGreatDoor
open Go.RowKit Go.Sort
set_option linter.unusedVariables false

theorem min2 (a b n : Int) (h : n = min a b) (ts : Array TypeId) (t : TypeId) (W : World) : (Builtin.min_ ts t #[.int .i64 a, .int .i64 b]).run Tryz.prog W = .ok (.int .i64 n) W := by
  have e : ∀ x y : Int, (if y < x then y else x) = min x y := fun x y => by split <;> omega
  simp [Builtin.min_, Builtin.min2, List.foldlM, e, go_sem, h]
theorem max2 (a b n : Int) (h : n = max a b) (ts : Array TypeId) (t : TypeId) (W : World) : (Builtin.max_ ts t #[.int .i64 a, .int .i64 b]).run Tryz.prog W = .ok (.int .i64 n) W := by
  have e : ∀ x y : Int, (if x < y then y else x) = max x y := fun x y => by split <;> omega
  simp [Builtin.max_, Builtin.max2, List.foldlM, e, go_sem, h]
/-- the nearest value -/
def clZ (z : Int) (s : Sl) : Int := min (max z s.lo) s.hi
def clL (zs : List Int) (ys : List Sl) : List Int := List.zipWith clZ zs ys
/-- Clamp -/
def clR (y : List Sl × Int) (zs : List Int) : List Int × Int := if y.2 ≠ 0 then ([], y.2) else if zs.length ≠ y.1.length then ([], 2) else (clL zs y.1, 0)
/-- a call hands back numbers and a code -/
def NewZc (y : List Int × Int) (w : World) (r : Ending) (w' : World) : Prop := ∃ A c, r = .returned (.tuple #[.slice A y.1.length c, .int .i64 y.2]) ∧ Zs w' w'.heap.size A y.1 ∧ Below w.heap.size w w'
theorem zs_nil (w : World) (A : Option Addr) : Zs w w.heap.size A [] := ⟨Row.nil _ _ _, by simp, fun z hz => absurd hz (by simp)⟩
theorem clL_at {zs : List Int} {ys : List Sl} {i : Nat} {z : Int} {s : Sl} (hz : zs[i]? = some z) (hs : ys[i]? = some s) : (clL zs ys).getD i 0 = clZ z s := by
  unfold clL
  rw [List.getD_eq_getElem?_getD, List.getElem?_zipWith, hz, hs]; rfl
theorem rowIs_zs {w : World} {g n : Nat} {cl : List Int} (h : w.rowIs g 3 n (fun j => .int .i64 (cl.getD j 0))) (hn : cl.length = n) (hl : n ≤ 1000000) (ha : ∀ z ∈ cl, inI z) : Zs w w.heap.size (some ⟨g, 0, none⟩) cl :=
  ⟨⟨fun _ => ⟨g, 0, rfl, h.lt, fun k u hu => by
    unfold zvals at hu
    rw [List.getElem?_map] at hu
    obtain ⟨x, hx, rfl⟩ := Option.map_eq_some_iff.1 hu
    have hk : k < n := by have := (List.getElem?_eq_some_iff.1 hx).1; omega
    rw [Nat.zero_add, h.cell hk]
    rw [List.getD_eq_getElem?_getD, hx]; rfl⟩⟩, by omega, ha⟩
theorem rowIs_below {w w' : World} {b : Nat} {t : TypeId} {n : Nat} {f : Nat → Value} (h : w.rowIs b t n f) (hb : Below w.heap.size w w') : w'.rowIs b t n f := h.of_block (hb.block _ h.lt)
set_option maxRecDepth 100000 in
set_option maxHeartbeats 2000000 in
theorem clamp_any (e : G) (zs : List Int) (ZA : Option Addr) (zc : Nat) (w : World) (hin : G.In w w.heap.size e) (hz : Zs w w.heap.size ZA zs) (hT : Tb w.heap.size w) :
    Calls Tryz.prog 15 #[e.val, .slice ZA zs.length zc] w (NewZc (clR (G.scalR nmB e) zs) w) := by
  have X := Eb.start w e 26
  have C1 := Lib.hid (fun W (i : Eb w W e) => scalars_any e W (hin.at i.bel) (hT.at i.bel))
  obtain ⟨hlen, hok⟩ := G.scalR_ok (nmB := nmB) e
  obtain ⟨y, hy⟩ : ∃ y, Hid (G.scalR nmB e = y) := ⟨_, Lib.hid rfl⟩
  rw [hy.out] at C1 hlen hok ⊢
  have HOK := Lib.hid hok
  obtain ⟨ys, c⟩ := y
  have HR : Hid (clR (ys, c) zs = if c ≠ 0 then ([], c) else if zs.length ≠ ys.length then ([], 2) else (clL zs ys, 0)) := Lib.hid rfl
  obtain ⟨q, hq⟩ : ∃ q, Hid (clR (ys, c) zs = q) := ⟨_, Lib.hid rfl⟩
  rw [hq.out] at HR ⊢
  have hzl := hz.len
  clear hy hq hT hin hok
  go_enter Tryz.func15, Tryz.ntmps15
  go_upto_region 1 with (fail)
  revert X
  generalize w.alloc (.cells #[.int .i64 e.kd, .int .i64 e.lo, .int .i64 e.hi, .int .i64 e.sz, .string e.nm, .slice e.na e.ns.length e.nc, .slice e.ad e.ks.length e.cap] 26) = w1
  intro X
  obtain ⟨k0, k1, k2, k3, k4, k5, k6⟩ := box_cells X.be
  go_wp2_with fail
  refine (C1.out _ X).mono ?_
  rintro r w2 ⟨A, c', rfl, hr, b2⟩
  replace X := X.below b2
  have hrow := Lib.hid hr.row
  clear k0 k1 k2 k3 k4 k5 k6 b2 C1 hr
  have bl := X.bel
  have hz2 := hz.at bl
  clear X
  dsimp only at hlen hrow
  by_cases h0 : c = 0
  · have q0 : (c != 0) = false := by rw [h0]; rfl
    by_cases hll : zs.length = ys.length
    · have HR2 : Hid (q = (clL zs ys, 0)) := Lib.hid (by rw [HR.out, if_neg (by rw [h0]; simp), if_neg (by rw [hll]; simp)])
      obtain ⟨n, hn⟩ : ∃ n, Hid (ys.length = n) := ⟨_, Lib.hid rfl⟩
      have hn2 : Hid (zs.length = n) := Lib.hid (by rw [hll, hn.out])
      rw [hn.out] at hlen
      have hcl : Hid ((clL zs ys).length = n) := Lib.hid (by unfold clL; rw [List.length_zipWith, hn.out, hn2.out]; omega)
      have hl1 := hn.out
      have hl2 := hn2.out
      have hmk : ∀ W, (Instr.makeSlice 55 (.int .i64 (n : Int)) (.int .i64 (n : Int))).run Tryz.prog W = .ok (.slice (some ⟨W.heap.size, 0, none⟩) n n) (W.alloc (.cells (madeCells #[.int .i64 0] n) 3)) := fun W =>
        run_make_row' (P := Tryz.prog) 55 3 (.int .i64 0) 8 Tryz.underlying55 (by kernel_rfl) rfl .i64 .i64 n (by omega) (by omega) W
      have R0 : (w2.alloc (.cells (madeCells #[.int .i64 0] n) 3)).rowIs w2.heap.size 3 n (fun j => .int .i64 (if j < 0 then (clL zs ys).getD j 0 else 0)) := World.rowIs_made _ _ _ _
      have bl3 : Below w2.heap.size w2 (w2.alloc (.cells (madeCells #[.int .i64 0] n) 3)) := al1 _ _
      clear HR h0 hll hzl hz
      go_wp2_with fail
      clear hl1 hl2 hmk
      go_loopw [29] (fun iv wr => ∃ (i : Nat), i ≤ n ∧ iv = .int .i64 i ∧ wr.rowIs w2.heap.size 3 n (fun j => .int .i64 (if j < i then (clL zs ys).getD j 0 else 0)) ∧ Below w2.heap.size w2 wr) (fun iv _ => n - (intOf iv).toNat)
      case atStart => exact ⟨0, Nat.zero_le _, rfl, R0, bl3⟩
      case round =>
        clear R0 bl3
        obtain ⟨i, hi, rfl, R, Y⟩ := hrel
        by_cases hlt : i < n
        · obtain ⟨b, off, s, rfl, hb, hsi, d0, d1, d2, d3⟩ := sl_at (hrow.out.below Y) (show i < ys.length by rw [hn.out]; exact hlt)
          obtain ⟨zb, zoff, z, rfl, hzb, hzi, ez, hzI⟩ := (hz2.below Y).at_ (show i < zs.length by rw [hn2.out]; exact hlt)
          have HC := Lib.hid (clL_at hzi hsi)
          obtain ⟨sp, sb, lo, hi2⟩ := s
          dsimp only at d0 d1 d2 d3
          have hlw := R.lt
          have Ya := Y.alloc Y.size (.cells #[.string sp, .bool sb, .int .i64 lo, .int .i64 hi2] 39)
          have Ra := R.alloc (.cells #[.string sp, .bool sb, .int .i64 lo, .int .i64 hi2] 39)
          have BS := Blk.new_ wr #[.string sp, .bool sb, .int .i64 lo, .int .i64 hi2] 39
          have ez2 : (wr.alloc (.cells #[.string sp, .bool sb, .int .i64 lo, .int .i64 hi2] 39)).cell? ⟨zb, zoff + i, none⟩ = some (.int .i64 z) := (World.cell?_alloc_lt _ _ _ (Nat.lt_of_lt_of_le hzb Y.size)).trans ez
          obtain ⟨u, hu⟩ : ∃ u, u = max z lo := ⟨_, rfl⟩
          obtain ⟨m, hm⟩ : ∃ m, m = min u hi2 := ⟨_, rfl⟩
          have HM : Hid ((clL zs ys).getD i 0 = m) := Lib.hid (by rw [HC.out, hm, hu]; rfl)
          have hmx := fun ts t W => max2 z lo u hu ts t W
          have hmn := fun ts t W => min2 u hi2 m hm ts t W
          clear hsi hzi HC hu hm R
          go_upto_region 10 with (fail)
          clear d0 d1 d2 d3 ez
          revert Ya Ra BS ez2
          generalize wr.alloc (.cells #[.string sp, .bool sb, .int .i64 lo, .int .i64 hi2] 39) = w4
          intro Ya Ra BS ez2
          have s2 : w4.drew.cell? ⟨wr.heap.size, 2, none⟩ = some (.int .i64 lo) := BS.c 2 rfl
          have s3 : w4.drew.cell? ⟨wr.heap.size, 3, none⟩ = some (.int .i64 hi2) := BS.c 3 rfl
          have s4 : w4.drew.cell? ⟨zb, zoff + i, none⟩ = some (.int .i64 z) := ez2
          have s5 := Ra.drew.cell hlt
          have s6 := Ra.drew.frozen i
          have R2 := (Ra.drew.set i (.int .i64 m)).congr (g := fun j => .int .i64 (if j < i + 1 then (clL zs ys).getD j 0 else 0)) (fun j hj => by
            by_cases hji : j = i
            · subst hji; rw [if_pos rfl, if_pos (by omega), HM.out]
            · rw [if_neg hji]
              by_cases hj2 : j < i
              · rw [if_pos hj2, if_pos (by omega)]
              · rw [if_neg hj2, if_neg (by omega)])
          have Y2 : Below w2.heap.size w2 (w4.drew.setCell ⟨w2.heap.size, i, none⟩ (.int .i64 m)) := (Ya.drew).setCell (by simp) _
          go_region
          all_goals
            clear s2 s3 s4 s5 s6 hmx hmn Ra Ya BS ez2
            go_wp2_with fail
            go_roundw
            case rel => exact ⟨i + 1, by omega, by go_num, R2, Y2⟩
            case measure => simp [intOf]; omega
        · obtain rfl : i = n := by omega
          have R2 := R.congr (g := fun j => .int .i64 ((clL zs ys).getD j 0)) (fun j hj => by rw [if_pos hj])
          have hV : Hid (Ending.returned (.tuple #[.slice (some ⟨w2.heap.size, 0, none⟩) i i, .int .i64 0]) = Ending.returned (.tuple #[.slice (some ⟨w2.heap.size, 0, none⟩) q.1.length i, .int .i64 q.2])) := Lib.hid (by rw [HR2.out]; show _ = Ending.returned (.tuple #[.slice _ (clL zs ys).length _, _]); rw [hcl.out])
          have HZ := Lib.hid (rowIs_zs R2 hcl.out (by omega) (fun z hz => by
            unfold clL at hz
            obtain ⟨j, hj, rfl⟩ := List.mem_iff_getElem.1 hz
            rw [List.getElem_zipWith]
            have h1 := hz2.all _ (List.getElem_mem (l := zs) (n := j) (by rw [List.length_zipWith] at hj; omega))
            have h2 := HOK.out _ (List.getElem_mem (l := ys) (n := j) (by rw [List.length_zipWith] at hj; omega))
            unfold inI at h1 ⊢
            unfold clZ
            unfold G.sOk at h2
            omega))
          go_wp2_with fail
          go_ret2
          exact ⟨_, i, hV.out, by rw [HR2.out]; exact HZ.out, bTrans bl Y⟩
    · have hlI : (((zs.length : Nat) : Int) != ((ys.length : Nat) : Int)) = true := by simp; omega
      have HQ : Hid (q = ([], 2)) := Lib.hid (by rw [HR.out, if_neg (by rw [h0]; simp), if_pos hll])
      have hV : Hid (Ending.returned (.tuple #[.slice none 0 0, .int .i64 2]) = Ending.returned (.tuple #[.slice none q.1.length 0, .int .i64 q.2])) := Lib.hid (by rw [HQ.out]; rfl)
      clear HR h0 hll
      go_wp2_with fail
      go_ret2
      exact ⟨none, 0, hV.out, by rw [HQ.out]; exact zs_nil _ _, bl⟩
  · have q0 : (c != 0) = true := by simpa using h0
    have HQ : Hid (q = ([], c)) := Lib.hid (by rw [HR.out, if_pos h0])
    have hV : Hid (Ending.returned (.tuple #[.slice none 0 0, .int .i64 c]) = Ending.returned (.tuple #[.slice none q.1.length 0, .int .i64 q.2])) := Lib.hid (by rw [HQ.out]; rfl)
    clear HR h0
    go_wp2_with fail
    go_ret2
    exact ⟨none, 0, hV.out, by rw [HQ.out]; exact zs_nil _ _, bl⟩
end Go.Proofs.YtlifnabeilnblaaGreatDoor
