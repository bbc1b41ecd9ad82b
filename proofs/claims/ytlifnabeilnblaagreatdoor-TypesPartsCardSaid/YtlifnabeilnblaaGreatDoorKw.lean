/- Walk: known() of the laws of types. -/
import Derived.Test.YtlifnabeilnblaaGreatDoorKl
import Derived.Test.YtlifnabeilnblaaGreatDoorXp
namespace Go.Proofs.YtlifnabeilnblaaGreatDoor
open Go.RowKit Go.Sort
set_option linter.unusedVariables false

namespace Kw
def bit : ByteArray := ⟨#[98, 105, 116]⟩
def pair : ByteArray := ⟨#[112, 97, 105, 114]⟩
abbrev tBit : G := .mk 4 0 0 0 ⟨#[98, 105, 116]⟩ none 0 [] none 0 []
abbrev tInt : G := .mk 1 1 3 0 ⟨#[]⟩ none 0 [] none 0 []
abbrev tRec (B : Nat) : G := .mk 3 0 0 0 ⟨#[]⟩ (some ⟨B, 0, none⟩) 2 [⟨#[97]⟩, ⟨#[98]⟩] (some ⟨B + 1, 0, none⟩) 2 [tBit, tInt]
abbrev d0 : Dc := ⟨0, ⟨#[98, 105, 116]⟩, G.zero, 0, 0, 0, ⟨#[]⟩, none, 0, 0, none, 0, 0, none, 0, 0, none, 0, 0⟩
abbrev d1 (B : Nat) : Dc := ⟨0, ⟨#[112, 97, 105, 114]⟩, tRec B, 0, 0, 0, ⟨#[]⟩, none, 0, 0, none, 0, 0, none, 0, 0, none, 0, 0⟩
abbrev tPair : G := .mk 4 0 0 0 ⟨#[112, 97, 105, 114]⟩ none 0 [] none 0 []
abbrev tArr (B : Nat) : G := .mk 2 0 0 2 ⟨#[]⟩ none 0 [] (some ⟨B + 3, 0, none⟩) 1 [tPair]
/-- what is expanded -/
def X : G := .mk 2 0 0 2 ⟨#[]⟩ none 0 [] none 0 [.mk 3 0 0 0 ⟨#[]⟩ none 0 [⟨#[97]⟩, ⟨#[98]⟩] none 0 [.mk 0 0 0 0 ⟨#[]⟩ none 0 [] none 0 [], .mk 1 1 3 0 ⟨#[]⟩ none 0 [] none 0 []]]
def S : List Sl := [⟨⟨#[46, 48, 46, 97]⟩, true, 0, 1⟩, ⟨⟨#[46, 48, 46, 98]⟩, false, 1, 3⟩, ⟨⟨#[46, 49, 46, 97]⟩, true, 0, 1⟩, ⟨⟨#[46, 49, 46, 98]⟩, false, 1, 3⟩]
set_option maxRecDepth 100000 in
theorem exp_eq (B : Nat) : G.expD nmB [d0, d1 B] (tArr B) = (X, 0) := by kernel_rfl
set_option maxRecDepth 100000 in
theorem scal_eq : G.scalR nmB X = (S, 0) := by kernel_rfl
set_option maxRecDepth 100000 in
theorem val_eq : G.valR nmB X = (36, 0) := by kernel_rfl
theorem cl_eq : clR (S, 0) [5, 0, -1, 2] = ([1, 1, 0, 2], 0) := by kernel_rfl
theorem con_eq : conB (S, 0) [1, 1, 0, 2] = true := by kernel_rfl
set_option maxRecDepth 100000 in
theorem chk_eq : G.chkT nmB tPair = 7 := by kernel_rfl
end Kw
theorem G.scalR_bare (e : G) : G.scalR nmB e.bare = G.scalR nmB e := by unfold G.scalR; rw [G.chkT_bare, G.scal_bare]
theorem G.valR_bare (e : G) : G.valR nmB e.bare = G.valR nmB e := by unfold G.valR; rw [G.scalR_bare]
end Go.Proofs.YtlifnabeilnblaaGreatDoor
/- Walk: known() of the laws of types. -/
namespace Go.Proofs.YtlifnabeilnblaaGreatDoor
open Go.RowKit Go.Sort
set_option linter.unusedVariables false

theorem four_blk (w : World) (c1 c2 c3 c4 : Array Value) (T1 T2 T3 T4 : TypeId) :
    Blk ((((w.alloc (.cells c1 T1)).alloc (.cells c2 T2)).alloc (.cells c3 T3)).alloc (.cells c4 T4)) w.heap.size c1 ∧
    Blk ((((w.alloc (.cells c1 T1)).alloc (.cells c2 T2)).alloc (.cells c3 T3)).alloc (.cells c4 T4)) (w.heap.size + 1) c2 ∧
    Blk ((((w.alloc (.cells c1 T1)).alloc (.cells c2 T2)).alloc (.cells c3 T3)).alloc (.cells c4 T4)) (w.heap.size + 2) c3 ∧
    Blk ((((w.alloc (.cells c1 T1)).alloc (.cells c2 T2)).alloc (.cells c3 T3)).alloc (.cells c4 T4)) (w.heap.size + 3) c4 ∧
    Below w.heap.size w ((((w.alloc (.cells c1 T1)).alloc (.cells c2 T2)).alloc (.cells c3 T3)).alloc (.cells c4 T4)) := by
  refine ⟨(((Blk.new_ _ _ _).alloc _).alloc _).alloc _, ?_, ?_, ?_, ?_⟩
  · have := ((Blk.new_ (w.alloc (.cells c1 T1)) c2 T2).alloc (.cells c3 T3)).alloc (.cells c4 T4)
    rwa [World.size_alloc] at this
  · have := (Blk.new_ ((w.alloc (.cells c1 T1)).alloc (.cells c2 T2)) c3 T3).alloc (.cells c4 T4)
    rwa [World.size_alloc, World.size_alloc] at this
  · have := Blk.new_ (((w.alloc (.cells c1 T1)).alloc (.cells c2 T2)).alloc (.cells c3 T3)) c4 T4
    rwa [World.size_alloc, World.size_alloc, World.size_alloc] at this
  · exact (((al1 w _).alloc (by simp) _).alloc (by simp; omega) _).alloc (by simp; omega) _
theorem row_blk {w : World} {b : Nat} {vs : List Value} (h : Blk w b vs.toArray) : Row w w.heap.size (some ⟨b, 0, none⟩) vs :=
  ⟨fun _ => ⟨b, 0, rfl, h.lt, fun k u hu => by rw [Nat.zero_add]; exact h.c k (by simpa using hu)⟩⟩
theorem leaf_in {w : World} {B : Nat} {k l h s : Int} {n : ByteArray} (h1 : inI k) (h2 : inI l) (h3 : inI h) (h4 : inI s) (h5 : n.size ≤ 100) : G.In w B (.mk k l h s n none 0 [] none 0 []) :=
  (G.in_eq _).2 ⟨⟨h1, h2, h3, h4, by show n.size ≤ _; omega, by show 0 ≤ _; omega, fun s hs => absurd hs (by show ¬ s ∈ []; simp), ⟨fun h => absurd h (by show ¬ 0 < 0; omega)⟩, by show 0 ≤ _; omega, ⟨fun h => absurd h (by show ¬ 0 < 0; omega)⟩⟩, G.inL_iff.2 fun e he => absurd he (by show ¬ e ∈ []; simp)⟩
/-- the memory of known -/
abbrev KW (w : World) : World := (((w.alloc (.cells (svals [⟨#[97]⟩, ⟨#[98]⟩]).toArray 9)).alloc (.cells (G.flat [Kw.tBit, Kw.tInt]).toArray 26)).alloc (.cells ([Kw.d0, Kw.d1 w.heap.size].flatMap Dc.cells).toArray 50)).alloc (.cells (G.flat [Kw.tPair]).toArray 26)
theorem inI_small {n : Int} (h : -1000 ≤ n) (h2 : n ≤ 1000) : inI n := by unfold inI; omega
theorem kw_rec (w : World) : G.In (KW w) (KW w).heap.size (Kw.tRec w.heap.size) := by
  obtain ⟨b1, b2, b3, b4, bl⟩ := four_blk w (svals [⟨#[97]⟩, ⟨#[98]⟩]).toArray (G.flat [Kw.tBit, Kw.tInt]).toArray ([Kw.d0, Kw.d1 w.heap.size].flatMap Dc.cells).toArray (G.flat [Kw.tPair]).toArray 9 26 50 26
  refine (G.in_eq _).2 ⟨⟨inI_small (by show (-1000 : Int) ≤ 3; omega) (by show (3 : Int) ≤ 1000; omega), inI_small (by show (-1000 : Int) ≤ 0; omega) (by show (0 : Int) ≤ 1000; omega), inI_small (by show (-1000 : Int) ≤ 0; omega) (by show (0 : Int) ≤ 1000; omega), inI_small (by show (-1000 : Int) ≤ 0; omega) (by show (0 : Int) ≤ 1000; omega), by show (⟨#[]⟩ : ByteArray).size ≤ _; decide, by show 2 ≤ _; omega, ?_, row_blk b1, by show 2 ≤ _; omega, row_blk b2⟩, G.inL_iff.2 ?_⟩
  · intro s hs
    have : s = ⟨#[97]⟩ ∨ s = ⟨#[98]⟩ := by simpa [G.ns] using hs
    rcases this with rfl | rfl <;> decide
  · intro e he
    have : e = Kw.tBit ∨ e = Kw.tInt := by simpa [G.ks] using he
    rcases this with rfl | rfl
    · exact leaf_in (inI_small (by omega) (by omega)) (inI_small (by omega) (by omega)) (inI_small (by omega) (by omega)) (inI_small (by omega) (by omega)) (by decide)
    · exact leaf_in (inI_small (by omega) (by omega)) (inI_small (by omega) (by omega)) (inI_small (by omega) (by omega)) (inI_small (by omega) (by omega)) (by decide)
theorem kw_pair (w : World) (B : Nat) : G.In w B Kw.tPair := leaf_in (inI_small (by omega) (by omega)) (inI_small (by omega) (by omega)) (inI_small (by omega) (by omega)) (inI_small (by omega) (by omega)) (by decide)
theorem kw_arr (w : World) : G.In (KW w) (KW w).heap.size (Kw.tArr w.heap.size) := by
  obtain ⟨b1, b2, b3, b4, bl⟩ := four_blk w (svals [⟨#[97]⟩, ⟨#[98]⟩]).toArray (G.flat [Kw.tBit, Kw.tInt]).toArray ([Kw.d0, Kw.d1 w.heap.size].flatMap Dc.cells).toArray (G.flat [Kw.tPair]).toArray 9 26 50 26
  refine (G.in_eq _).2 ⟨⟨inI_small (by show (-1000 : Int) ≤ 2; omega) (by show (2 : Int) ≤ 1000; omega), inI_small (by show (-1000 : Int) ≤ 0; omega) (by show (0 : Int) ≤ 1000; omega), inI_small (by show (-1000 : Int) ≤ 0; omega) (by show (0 : Int) ≤ 1000; omega), inI_small (by show (-1000 : Int) ≤ 2; omega) (by show (2 : Int) ≤ 1000; omega), by show (⟨#[]⟩ : ByteArray).size ≤ _; decide, by show 0 ≤ _; omega, fun s hs => absurd hs (by show ¬ s ∈ []; simp), ⟨fun h => absurd h (by show ¬ 0 < 0; omega)⟩, by show 1 ≤ _; omega, row_blk b4⟩, G.inL_iff.2 ?_⟩
  intro e he
  have : e = Kw.tPair := by simpa [G.ks] using he
  subst this
  exact kw_pair _ _
theorem kw_decls (w : World) : Dc.L (KW w) (KW w).heap.size (some ⟨w.heap.size + 2, 0, none⟩) [Kw.d0, Kw.d1 w.heap.size] := by
  obtain ⟨b1, b2, b3, b4, bl⟩ := four_blk w (svals [⟨#[97]⟩, ⟨#[98]⟩]).toArray (G.flat [Kw.tBit, Kw.tInt]).toArray ([Kw.d0, Kw.d1 w.heap.size].flatMap Dc.cells).toArray (G.flat [Kw.tPair]).toArray 9 26 50 26
  refine ⟨by simp, row_blk b3, fun d hd => ?_⟩
  have : d = Kw.d0 ∨ d = Kw.d1 w.heap.size := by simpa using hd
  rcases this with rfl | rfl
  · exact ⟨inI_small (by show (-1000 : Int) ≤ 0; omega) (by show (0 : Int) ≤ 1000; omega), by decide, leaf_in (inI_small (by omega) (by omega)) (inI_small (by omega) (by omega)) (inI_small (by omega) (by omega)) (inI_small (by omega) (by omega)) (by decide)⟩
  · exact ⟨inI_small (by show (-1000 : Int) ≤ 0; omega) (by show (0 : Int) ≤ 1000; omega), by show (⟨#[112, 97, 105, 114]⟩ : ByteArray).size ≤ _; decide, kw_rec w⟩
theorem kw_below (w : World) : Below w.heap.size w (KW w) := (four_blk w _ _ _ _ _ _ _ _).2.2.2.2
theorem zs_blk {w : World} {b : Nat} {zs : List Int} (h : Blk w b (zvals zs).toArray) (hl : zs.length ≤ 1000) (ha : ∀ z ∈ zs, -1000 ≤ z ∧ z ≤ 1000) : Zs w w.heap.size (some ⟨b, 0, none⟩) zs :=
  ⟨row_blk h, by omega, fun z hz => inI_small (ha z hz).1 (ha z hz).2⟩
set_option maxRecDepth 100000 in
set_option maxHeartbeats 4000000 in
theorem known_any (w : World) (hT : Tb w.heap.size w) : Calls Tryz.prog 5 #[] w fun r w' => r = .returned (.bool true) ∧ Below w.heap.size w w' := by
  have HX := expandAll_any [Kw.d0, Kw.d1 w.heap.size] (some ⟨w.heap.size + 2, 0, none⟩) 2 (Kw.tArr w.heap.size) (KW w) (kw_decls w) (kw_arr w) (hT.at (kw_below w)) (by simp)
  rw [Kw.exp_eq] at HX
  have HX2 := Lib.hid HX
  have bk := kw_below w
  have hT2 := Lib.hid (fun W (hb : Below w.heap.size w W) => hT.at hb)
  clear HX hT
  go_enter Tryz.func5, Tryz.ntmps5
  go_wp2_with fail
  refine HX2.out.mono ?_
  rintro r w2 ⟨x, rfl, hx, hxb, b2⟩
  have bl2 := bTrans bk b2
  have b3 := al1 w2 (.cells x.box 26)
  have bl3 := bTrans bl2 b3
  have hin := G.InS.in_ _ (hx.below b3)
  have BX := Blk.new_ w2 x.box 26
  have HS0 : G.scalR nmB x = (Kw.S, 0) := by rw [← G.scalR_bare, hxb, Kw.scal_eq]
  have HV0 : G.valR nmB x = (36, 0) := by rw [← G.valR_bare, hxb, Kw.val_eq]
  have HSc := Lib.hid (scalars_any x _ hin (hT2.out _ bl3))
  rw [HS0] at HSc
  have HSc2 := Lib.hid (show Calls Tryz.prog 10 #[x.val] (w2.alloc (.cells x.box 26)) fun r w' => ∃ A c, r = .returned (.tuple #[.slice A 4 c, .int .i64 0]) ∧ RowS w' (New (w2.alloc (.cells x.box 26))) A (flatS Kw.S) ∧ Below (w2.alloc (.cells x.box 26)).heap.size (w2.alloc (.cells x.box 26)) w' from HSc.out)
  have HVa := Lib.hid (fun W (hb : Below (w2.alloc (.cells x.box 26)).heap.size (w2.alloc (.cells x.box 26)) W) => by
    have := values_any x W (hin.at hb) (hT2.out _ (bTrans bl3 hb)); rw [HV0] at this; exact this)
  have HCl := Lib.hid (fun W (hb : Below (w2.alloc (.cells x.box 26)).heap.size (w2.alloc (.cells x.box 26)) W) ZA (hz : Zs W W.heap.size ZA [5, 0, -1, 2]) => by
    have := clamp_any x [5, 0, -1, 2] ZA 4 W (hin.at hb) hz (hT2.out _ (bTrans bl3 hb)); rw [HS0, Kw.cl_eq] at this
    exact (show Calls Tryz.prog 15 #[x.val, .slice ZA 4 4] W fun r w' => ∃ A c, r = .returned (.tuple #[.slice A 4 c, .int .i64 0]) ∧ Zs w' w'.heap.size A [1, 1, 0, 2] ∧ Below W.heap.size W w' from this))
  have HCn := Lib.hid (fun W (hb : Below (w2.alloc (.cells x.box 26)).heap.size (w2.alloc (.cells x.box 26)) W) ZA zc (hz : Zs W W.heap.size ZA [1, 1, 0, 2]) => by
    have := contains_any x [1, 1, 0, 2] ZA zc W (hin.at hb) hz (hT2.out _ (bTrans bl3 hb)); rw [HS0, Kw.con_eq] at this
    exact (show Calls Tryz.prog 17 #[x.val, .slice ZA 4 zc] W fun r w' => r = .returned (.bool true) ∧ Below W.heap.size W w' from this))
  have HCk := Lib.hid (fun W (hb : Below w.heap.size w W) => by
    have := tcheck_any Kw.tPair W (kw_pair _ _) (hT2.out _ hb); rw [Kw.chk_eq] at this
    exact (show Calls Tryz.prog 11 #[.agg #[.int .i64 4, .int .i64 0, .int .i64 0, .int .i64 0, .string ⟨#[112, 97, 105, 114]⟩, .slice none 0 0, .slice none 0 0]] W fun r w' => r = .returned (.int .i64 7) ∧ Below W.heap.size W w' from this))
  clear HX2 bk HSc HS0 HV0 hin hT2
  go_wp2_with fail
  refine HSc2.out.mono ?_
  rintro r w4 ⟨A, c, rfl, hr, b4⟩
  have BX4 := BX.below b4 BX.lt
  obtain ⟨k0, k1, k2, k3, k4, k5, k6⟩ := box_cells BX4
  clear HSc2
  go_wp2_with fail
  refine (HVa.out _ b4).mono ?_
  rintro r w5 ⟨rfl, b5⟩
  have b45 := bTrans b4 b5
  clear k0 k1 k2 k3 k4 k5 k6
  have bz := al1 w5 (.cells (zvals [5, 0, -1, 2]).toArray 3)
  have b46 := bTrans b45 bz
  have BX5 := BX.below b45 BX.lt
  have HC6 := Lib.hid (HCl.out _ b46 (some ⟨w5.heap.size, 0, none⟩) (zs_blk (Blk.new_ w5 (zvals [5, 0, -1, 2]).toArray 3) (by decide) (by decide)))
  obtain ⟨k0, k1, k2, k3, k4, k5, k6⟩ := box_cells BX5
  clear HVa HCl
  go_wp2_with fail
  refine (HC6.out).mono ?_
  rintro r w7 ⟨ZA, zc, rfl, hz, b7⟩
  have b47 := bTrans b46 b7
  have BX7 := BX.below b47 BX.lt
  have bl7 := bTrans bl3 b47
  have hrow := (hr.row.below (show Below w4.heap.size w4 w7 from bTrans (bTrans b5 bz) b7))
  obtain ⟨b, off, s, rfl, hb, hsi, e0, e1, e2, e3⟩ := sl_at hrow (show 2 < Kw.S.length by decide)
  obtain rfl : s = ⟨⟨#[46, 49, 46, 97]⟩, true, 0, 1⟩ := (Option.some.inj hsi).symm
  dsimp only at e0 e1 e2 e3
  have bq := al1 w7 (.cells (zvals [1, 1, 0, 2]).toArray 3)
  have HE8 := Lib.hid (show Calls Tryz.prog 16 #[.slice ZA 4 zc, .slice (some ⟨w7.heap.size, 0, none⟩) 4 4] (w7.alloc (.cells (zvals [1, 1, 0, 2]).toArray 3)) fun r w' => r = .returned (.bool true) ∧ Below (w7.alloc (.cells (zvals [1, 1, 0, 2]).toArray 3)).heap.size (w7.alloc (.cells (zvals [1, 1, 0, 2]).toArray 3)) w' from
    zequal_any [1, 1, 0, 2] [1, 1, 0, 2] ZA _ zc 4 _ (hz.at bq) (zs_blk (Blk.new_ w7 (zvals [1, 1, 0, 2]).toArray 3) (by decide) (by decide)))
  clear k0 k1 k2 k3 k4 k5 k6 hsi HC6
  go_wp2_with fail
  refine (HE8.out).mono ?_
  rintro r w8 ⟨rfl, b8⟩
  have b78 := bTrans bq b8
  have BX8 := BX7.below b78 BX7.lt
  obtain ⟨k0, k1, k2, k3, k4, k5, k6⟩ := box_cells BX8
  have hz8 := hz.at b78
  go_wp2_with fail
  refine (HCn.out _ (bTrans b47 b78) ZA zc hz8).mono ?_
  rintro r w9 ⟨rfl, b9⟩
  have bl9 := bTrans (bTrans bl7 b78) b9
  go_wp2_with fail
  refine (HCk.out _ bl9).mono ?_
  rintro r w10 ⟨rfl, b10⟩
  go_wp2_with fail
  go_ret
  exact ⟨rfl, bTrans bl9 b10⟩
end Go.Proofs.YtlifnabeilnblaaGreatDoor
