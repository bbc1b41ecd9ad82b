/- Walks: what the laws know of the package: the chapter's examples. -/
import Derived.Test.YtdbboeknknlolaaWg
import Derived.Test.YtdbboeknknlolaaW7
namespace Go.Proofs.Ytdbboeknknlolaa
open Go.RowKit Go.Sort
set_option linter.unusedVariables false

/-- the rows of a list that is built up -/
def rowsW (w : World) : List (List Int) → World
  | [] => w
  | z :: l => rowsW (w.alloc (.cells (zvals z).toArray 3)) l
def rowsC (b : Nat) : List (List Int) → List Cl
  | [] => []
  | z :: l => ⟨some ⟨b, 0, none⟩, z.length, z⟩ :: rowsC (b + 1) l
def nextB (b : Nat) : List (List Int) → Nat
  | [] => b
  | _ :: l => nextB (b + 1) l
abbrev built (w : World) (L : List (List Int)) : World := (rowsW w L).alloc (.cells (cvals (rowsC w.heap.size L)).toArray 34)
theorem rowsW_size (L : List (List Int)) : ∀ w : World, (rowsW w L).heap.size = nextB w.heap.size L := by
  induction L with
  | nil => intro w; rfl
  | cons z l ih => intro w; show (rowsW _ l).heap.size = nextB (w.heap.size + 1) l; rw [ih, World.size_alloc]
theorem rowsW_bel (L : List (List Int)) : ∀ w : World, Below w.heap.size w (rowsW w L) := by
  induction L with
  | nil => intro w; exact Below.refl _ _
  | cons z l ih => intro w; exact bTrans (al1 w _) (ih _)
theorem rowsC_ct (L : List (List Int)) : ∀ b : Nat, ct (rowsC b L) = L := by
  induction L with
  | nil => intro b; rfl
  | cons z l ih => intro b; show z :: ct (rowsC (b + 1) l) = z :: l; rw [ih]
theorem rowsC_len (L : List (List Int)) (b : Nat) : (rowsC b L).length = L.length := by
  have := congrArg List.length (rowsC_ct L b)
  rwa [List.length_map] at this
theorem rows_ok (L : List (List Int)) : ∀ w : World, (∀ z ∈ L, z.length ≤ 1000 ∧ ∀ x ∈ z, inI x) → ∀ c ∈ rowsC w.heap.size L, Zs (rowsW w L) (rowsW w L).heap.size c.ad c.zs := by
  induction L with
  | nil => intro w _ c hc; cases hc
  | cons z l ih =>
    intro w hL c hc
    have hb := rowsW_bel l (w.alloc (.cells (zvals z).toArray 3))
    rcases List.mem_cons.1 hc with rfl | hc
    · have h1 := hL z (by simp)
      have B := (Blk.new_ w (zvals z).toArray 3).below hb (by rw [World.size_alloc]; omega)
      exact ⟨⟨fun h0 => ⟨w.heap.size, 0, rfl, B.lt, fun k u hu => B.c (0 + k) (by rw [Nat.zero_add]; simpa using hu)⟩⟩, h1.2, by show z.length ≤ _; omega⟩
    · exact ih (w.alloc (.cells (zvals z).toArray 3)) (fun y hy => hL y (by simp [hy])) c (by rw [World.size_alloc]; exact hc)
theorem built_ll (w : World) (L : List (List Int)) (hl : L.length ≤ 1000) (hL : ∀ z ∈ L, z.length ≤ 1000 ∧ ∀ x ∈ z, inI x) : LL (built w L) (built w L).heap.size (some ⟨nextB w.heap.size L, 0, none⟩) (rowsC w.heap.size L) := by
  have hs := rowsW_size L w
  have B := Blk.new_ (rowsW w L) (cvals (rowsC w.heap.size L)).toArray 34
  rw [hs] at B
  refine ⟨⟨fun h0 => ⟨_, 0, rfl, B.lt, fun k u hu => B.c (0 + k) (by rw [Nat.zero_add]; simpa using hu)⟩⟩, fun c hc => ?_, by rw [rowsC_len]; omega⟩
  exact ((rows_ok L w hL c hc).at (al1 _ _))
theorem built_bel (w : World) (L : List (List Int)) : Below w.heap.size w (built w L) := bTrans (rowsW_bel L w) (al1 _ _)
theorem rows_len (L : List (List Int)) (b : Nat) (hL : ∀ z ∈ L, z.length ≤ 1000 ∧ ∀ x ∈ z, inI x) : ∀ c ∈ rowsC b L, c.zs.length ≤ 1000000 := fun c hc => by
  have : c.zs ∈ ct (rowsC b L) := List.mem_map_of_mem hc
  rw [rowsC_ct] at this
  have := (hL _ this).1
  omega
theorem canonical_rows (w : World) (L : List (List Int)) (hl : L.length ≤ 1000) (hL : ∀ z ∈ L, z.length ≤ 1000 ∧ ∀ x ∈ z, inI x) (n : Nat) (hn : L.length = n) :
    Calls Try.prog 15 #[.slice (some ⟨nextB w.heap.size L, 0, none⟩) n n] (built w L) (NLL (canL L) w) := by
  have H := canonical_any (rowsC w.heap.size L) (some ⟨nextB w.heap.size L, 0, none⟩) n (built w L) (built_ll w L hl hL) (by rw [rowsC_len]; omega) (rows_len L _ hL)
  rw [rowsC_ct, rowsC_len, hn] at H
  exact H.mono fun r w' ⟨A, c, ds, h1, h2, h3, h4⟩ => ⟨A, c, ds, h1, h2, h3, bTrans (built_bel w L) h4⟩
theorem residual_rows (w : World) (L : List (List Int)) (x : Int) (rx : inI x) (hl : L.length ≤ 1000) (hL : ∀ z ∈ L, z.length ≤ 1000 ∧ ∀ x ∈ z, inI x) (n : Nat) (hn : L.length = n) :
    Calls Try.prog 22 #[.slice (some ⟨nextB w.heap.size L, 0, none⟩) n n, .int .i64 x] (built w L) (NLL (resL L x) w) := by
  have H := residual_any (rowsC w.heap.size L) x (some ⟨nextB w.heap.size L, 0, none⟩) n (built w L) (built_ll w L hl hL) rx (by rw [rowsC_len]; omega) (rows_len L _ hL)
  rw [rowsC_ct, rowsC_len, hn] at H
  exact H.mono fun r w' ⟨A, c, ds, h1, h2, h3, h4⟩ => ⟨A, c, ds, h1, h2, h3, bTrans (built_bel w L) h4⟩
theorem equal_rows (w : World) (ds : List Cl) (A : Option Addr) (ca : Nat) (h : LL w w.heap.size A ds) (L : List (List Int)) (hd : ct ds = L) (hl : L.length ≤ 1000) (hL : ∀ z ∈ L, z.length ≤ 1000 ∧ ∀ x ∈ z, inI x) (n : Nat) (hn : L.length = n) :
    Calls Try.prog 14 #[.slice A n ca, .slice (some ⟨nextB w.heap.size L, 0, none⟩) n n] (built w L) fun r w' => r = .returned (.bool true) ∧ Below w.heap.size w w' := by
  have hdn : ds.length = n := by rw [← hn, ← hd, List.length_map]
  have H := equal_any ds (rowsC w.heap.size L) A (some ⟨nextB w.heap.size L, 0, none⟩) ca n (built w L) (h.at (built_bel w L)) (built_ll w L hl hL) (by omega) (by rw [rowsC_len]; omega)
    (fun c hc => by
      have : c.zs ∈ ct ds := List.mem_map_of_mem hc
      rw [hd] at this
      have := (hL _ this).1
      omega) (rows_len L _ hL)
  rw [rowsC_ct, rowsC_len, hn, hd, hdn] at H
  exact H.mono fun r w' ⟨h1, h2⟩ => ⟨by rw [h1]; simp, bTrans (built_bel w L) h2.bel⟩
abbrev kL1 : List (List Int) := [[2, 1, 2], [1, -1], [-3], [], [1, 2]]
abbrev kM1 : List (List Int) := [[], [1, 2], [-3]]
abbrev kL2 : List (List Int) := [[1, 2], [-1, 3], [2]]
abbrev kM2 : List (List Int) := [[2], [3]]
abbrev kM3 : List (List Int) := [[-1, -3, 4], [-1, 3, -4], [1, -4], [-2, 3], [2, -3], [4]]
theorem okL {L : List (List Int)} (h : (L.all fun z => decide (z.length ≤ 1000) && z.all fun x => decide (-9223372036854775808 ≤ x) && decide (x ≤ 9223372036854775807)) = true) : ∀ z ∈ L, z.length ≤ 1000 ∧ ∀ x ∈ z, inI x := by
  intro z hz
  have := List.all_eq_true.1 h z hz
  simp at this
  exact ⟨this.1, fun x hx => this.2 x hx⟩
theorem can1 : canL kL1 = kM1 := by decide
theorem res2 : resL kL2 1 = kM2 := by decide
theorem can3 : canL ls2 = kM3 := by decide
set_option maxRecDepth 100000 in
set_option maxHeartbeats 4000000 in
theorem known_ok (w : World) : Calls Try.prog 9 #[] w fun r w' => r = .returned (.bool true) ∧ Below w.heap.size w w' := by
  have C1 := Lib.hid (canonical_rows w kL1 (by decide) (okL (by decide)) 5 rfl)
  have C2 := Lib.hid (fun w => residual_rows w kL2 1 (by unfold inI; omega) (by decide) (okL (by decide)) 3 rfl)
  rw [can1] at C1
  simp only [res2] at C2
  go_enter Try.func9, Try.ntmps9
  go_wp2_with fail
  refine C1.out.mono ?_
  rintro r w2 ⟨A1, c1, ds1, rfl, h1, L1, b1⟩
  clear C1
  have hd1 : ds1.length = 3 := by have := congrArg List.length h1; rw [List.length_map] at this; exact this
  rw [hd1]
  have H1 := Lib.hid h1
  clear h1
  go_wp2_with fail
  refine (C2.out w2).mono ?_
  rintro r w3 ⟨A2, c2, ds2, rfl, h2, L2, b2⟩
  clear C2
  have hd2 : ds2.length = 2 := by have := congrArg List.length h2; rw [List.length_map] at this; exact this
  rw [hd2]
  have H2 := Lib.hid h2
  have L1b := L1.at b2
  have b3 := bTrans b1 b2
  clear h2 L1 b1 b2
  have N := Blk.new_ w3 ndC 51
  have C3 := Lib.hid (cofbdd_any w3.heap.size _ N)
  clear N
  go_wp2_with fail
  refine C3.out.mono ?_
  rintro r w4 ⟨⟨A3, c3, ds3, rfl, h3, L3⟩, b4⟩
  clear C3
  rw [can3] at h3
  have hd3 : ds3.length = 6 := by have := congrArg List.length h3; rw [List.length_map] at this; exact this
  rw [hd3]
  have B := Blk.new_ w4 #[.int .i64 4, .int .i64 2, .slice A3 ds3.length c3] 24
  rw [hd3] at B
  have bq := bTrans (bTrans (al1 w3 (.cells ndC 51)) b4) (al1 w4 (.cells #[.int .i64 4, .int .i64 2, .slice A3 6 c3] 24))
  have L1c := L1b.at bq
  have L2c := L2.at bq
  have L3c := L3.at (al1 w4 (.cells #[.int .i64 4, .int .i64 2, .slice A3 6 c3] 24))
  have b5 := bTrans b3 bq
  have H3 := Lib.hid h3
  clear L1b L2 L3 b3 bq b4 h3
  go_upto_region 4 with (fail)
  revert B
  revert L1c
  revert L2c
  revert L3c
  revert b5
  generalize w4.alloc (.cells #[.int .i64 4, .int .i64 2, .slice A3 6 c3] 24) = w5
  intro b5 L3c L2c L1c B
  have E1 := Lib.hid (equal_rows w5 ds1 A1 c1 L1c kM1 H1.out (by decide) (okL (by decide)) 3 rfl)
  have K2 := Lib.hid (fun W (h : Below w5.heap.size w5 W) => equal_rows W ds2 A2 c2 (L2c.at h) kM2 H2.out (by decide) (okL (by decide)) 2 rfl)
  have K3 := Lib.hid (fun W (h : Below w5.heap.size w5 W) => equal_rows W ds3 A3 c3 (L3c.at h) kM3 H3.out (by decide) (okL (by decide)) 6 rfl)
  have HB := Lib.hid (fun W (h : Below w5.heap.size w5 W) => B.below h B.lt)
  clear L1c L2c L3c B H1 H2 H3 hd1 hd2 hd3
  go_wp2_with fail
  refine E1.out.mono ?_
  rintro r w6 ⟨rfl, b6⟩
  have E2 := Lib.hid (K2.out w6 b6)
  clear E1 K2
  go_wp2_with fail
  refine E2.out.mono ?_
  rintro r w7 ⟨rfl, b7⟩
  have b8 := bTrans b6 b7
  have E3 := Lib.hid (K3.out w7 b8)
  have d0 := (HB.out w7 b8).c 0 rfl
  have d1 := (HB.out w7 b8).c 1 rfl
  have d2 := (HB.out w7 b8).c 2 rfl
  clear E2 K3 b6 b7 HB
  go_wp2_with fail
  refine E3.out.mono ?_
  rintro r w9 ⟨rfl, b9⟩
  have b10 := bTrans b5 (bTrans b8 b9)
  clear E3 d0 d1 d2
  go_wp2_with fail
  go_ret
  exact ⟨rfl, b10⟩
end Go.Proofs.Ytdbboeknknlolaa
