/- Walks: the reference's mulWords. -/
import Derived.Test.YtmhfdmidaheoeaaDoorWd
import Derived.Deep.RegionHeld3
import Derived.Deep.RegionLawGrows
namespace Go.Proofs.YtmhfdmidaheoeaaDoor
open Go.RowKit
set_option linter.unusedVariables false

theorem Kn.val_drop_step (l : List Nat) {k : Nat} (h : k < l.length) : Kn.val (l.drop k) = l.getD k 0 + 4294967296 * Kn.val (l.drop (k + 1)) := by
  rw [List.drop_eq_getElem_cons h, Kn.val_cons, List.getD_eq_getElem?_getD, List.getElem?_eq_getElem h]; rfl

/-- the world of a round: two lists of words and the product so far -/
structure Mu (w wr : World) (A : Option Addr) (ca : Nat) (a : List Nat) (B : Option Addr) (cb : Nat) (b : List Nat) (C : Option Addr) (cc : Nat) (o : List Nat) : Prop where
  a : Sl wr wr.heap.size A ca a
  b : Sl wr wr.heap.size B cb b
  o : Sl wr wr.heap.size C cc o
  bel : Below w.heap.size w wr
section
variable {w wr wx : World} {A B C : Option Addr} {ca cb cc : Nat} {a b o : List Nat}
theorem Mu.below (h : Mu w wr A ca a B cb b C cc o) (hb : Below wr.heap.size wr wx) : Mu w wx A ca a B cb b C cc o :=
  ⟨h.a.at_ hb (Nat.le_refl _), h.b.at_ hb (Nat.le_refl _), h.o.at_ hb (Nat.le_refl _), h.bel.trans (hb.mono h.bel.size)⟩
theorem Mu.alloc (h : Mu w wr A ca a B cb b C cc o) (x : Obj) : Mu w (wr.alloc x) A ca a B cb b C cc o := h.below (al1 _ _)
theorem Mu.drew (h : Mu w wr A ca a B cb b C cc o) : Mu w wr.drew A ca a B cb b C cc o := h.below (bDrew (Below.refl _ _) 1)
end
theorem Mu.cell {w wr : World} {A C : Option Addr} {ca cb cc bb off j x : Nat} {a b o : List Nat} (h : Mu w wr A ca a (some ⟨bb, off, none⟩) cb b C cc o) (hj : j < b.length) (hx : Hid (x = b.getD j 0)) : wr.cell? ⟨bb, off + j, none⟩ = some (.int .u32 (x : Int)) := by
  obtain ⟨b1, o1, y, e, _, hc, hy, _⟩ := h.b.word hj
  injection e with e
  injection e with e1 e2
  subst e1 e2
  rw [hc, hy.out, hx.out]
theorem Sl.nx {w w' : World} {A : Option Addr} {c : Nat} {ws : List Nat} (h : Sl w w.heap.size A c ws) (hb : Below w.heap.size w w') : Sl w' w'.heap.size A c ws := h.at_ hb (Nat.le_refl _)
/-- a world that grew by an append that made a new row -/
theorem grown_below {w w' : World} (h : w.grownBy w' none) : Below w.heap.size w w' := ⟨h.os, h.tape, h.output, h.size, fun k hk => h.block k hk (by simp)⟩
theorem hold_one {W : World} {g : Nat} {v : Value} (h : W.cell? ⟨g, 0, none⟩ = some v) : ∀ b, (some ⟨g, 0, none⟩ : Option Addr) = some b → ∀ j u, [v][j]? = some u → W.cell? (b.add j) = some u := by
  intro b e j u hu
  injection e with e
  subst e
  have hj : j = 0 := by have := (List.getElem?_eq_some_iff.1 hu).1; simpa using this
  subst hj
  have : v = u := by simpa using hu
  subst this
  have e2 : (⟨g, 0, none⟩ : Addr).add 0 = ⟨g, 0, none⟩ := by unfold Addr.add; split <;> simp_all
  rw [e2]; exact h
theorem sl_one {W : World} {g x : Nat} (h : W.cell? ⟨g, 0, none⟩ = some (.int .u32 (x : Int))) (hx : x < 4294967296) : Sl W W.heap.size (some ⟨g, 0, none⟩) 1 [x] :=
  ⟨⟨⟨fun _ => ⟨g, 0, rfl, World.block_lt_of_cell? W _ h, fun k u hu => by
    have hk : k = 0 := by have := (List.getElem?_eq_some_iff.1 hu).1; simpa using this
    subst hk
    have : u = Value.int .u32 (x : Int) := by simpa using hu.symm
    rw [this]; exact h⟩⟩⟩, Kn.Wd.cons hx Kn.Wd.nil, Nat.le_refl _, fun e => by cases e⟩
theorem news_of {W : World} {b off c : Nat} {l : List Nat} (h : Sl W W.heap.size (some ⟨b, off, none⟩) c l) : ∀ j u, (u32s l)[j]? = some u → W.cell? ((⟨b, off, none⟩ : Addr).add j) = some u := by
  intro j u hu
  have hj := (List.getElem?_eq_some_iff.1 hu).1
  rw [u32s_len] at hj
  obtain ⟨b', off', e, hb, hc⟩ := h.nums.row.cells (by rw [List.length_map]; omega)
  injection e with e
  injection e with e1 e2
  subst e1 e2
  rw [Go.WideShapes.add_plain]
  exact hc j u hu
theorem new0 (W : World) : (W.alloc (.cells #[.int .u32 0] 39)).cell? ⟨W.heap.size, 0, none⟩ = some (.int .u32 0) := by
  rw [cell_of_row _ _ 0 _ _ _ (heap_alloc_new W _)]; rfl

set_option maxRecDepth 100000 in
set_option maxHeartbeats 4000000 in
theorem rmulWords_any (A : Option Addr) (ca : Nat) (a : List Nat) (B : Option Addr) (cb : Nat) (b : List Nat) (w : World) (ha : Sl w w.heap.size A ca a) (hb : Sl w w.heap.size B cb b) (hla : a.length ≤ 1000000) (hlb : b.length ≤ 1000000) :
    Calls Tryd.prog 65 #[.slice A a.length ca, .slice B b.length cb] w (MagRes (Kn.val a * Kn.val b) w) := by
  obtain ⟨i0, hi, hz0, hz1, hz2⟩ := info_parts infoU32
  have HW := Lib.hid (Kn.val_lt ha.wd)
  have HWB := Lib.hid hb.wd
  go_enter Tryd.func65, Tryd.ntmps65
  go_wp2_with fail
  have M0 : Mu w (w.alloc (.cells #[] 39)) A ca a B cb b (some ⟨w.heap.size, 0, none⟩) 0 [] := by
    refine ⟨ha.nx (al1 _ _), hb.nx (al1 _ _), ⟨Nums.nil _ _ _ _, Kn.Wd.nil, Nat.zero_le _, fun e => by cases e⟩, al1 _ _⟩
  go_loopw [5, 6] (fun ov iv wr => ∃ (z : Int) (k N : Nat) (C : Option Addr) (cc : Nat), k ≤ b.length ∧ iv = .int .i64 z ∧ Hid (z = (k : Int) - 1) ∧ -1 ≤ z ∧ z ≤ 1000000 ∧ ov = .slice C (Kn.dig N).length cc ∧ Hid (N = Kn.val a * Kn.val (b.drop k)) ∧ Mu w wr A ca a B cb b C cc (Kn.dig N)) (fun _ iv _ => (intOf iv + 1).toNat)
  case atStart => exact ⟨_, b.length, 0, some ⟨w.heap.size, 0, none⟩, 0, Nat.le_refl _, rfl, Lib.hid rfl, by omega, by omega, by rw [Kn.dig_zero]; rfl, Lib.hid (by rw [List.drop_length, Kn.val_nil, Nat.mul_zero]), by rw [Kn.dig_zero]; exact M0⟩
  case round =>
    clear M0 ha hb
    obtain ⟨z, k, N, C, cc, hk, rfl, hz, hz3, hz4, rfl, HN, M⟩ := hrel
    by_cases hz0' : 0 ≤ z
    · obtain ⟨j, rfl⟩ : ∃ j : Nat, z = (j : Int) := ⟨z.toNat, by omega⟩
      obtain rfl : k = j + 1 := by have := hz.out; omega
      have hj : j < b.length := by omega
      have hjI : (j : Int) < (b.length : Int) := by omega
      have hNl : (Kn.dig N).length ≤ 2000000 := by
        refine Nat.le_trans (Kn.dig_len_le (k := a.length + (b.drop (j + 1)).length) ?_) (by rw [List.length_drop]; omega)
        rw [HN.out, Kn.pw_add]
        exact Nat.mul_lt_mul'' HW.out (Kn.val_lt (HWB.out.drop _))
      obtain ⟨bb, off, x, rfl, hbb, hcx, hx, hxl⟩ := M.b.word hj
      have HX : Hid (0 + 4294967296 * N + Kn.val a * x = Kn.val a * Kn.val (b.drop j)) := Lib.hid (by
        rw [Kn.val_drop_step b hj, ← hx.out, HN.out, Nat.mul_add, Nat.mul_left_comm]; omega)
      obtain ⟨T, hT⟩ : ∃ T, Hid (T = Kn.val a * x) := ⟨_, Lib.hid rfl⟩
      have hTl : (Kn.dig T).length ≤ 2000000 := by
        refine Nat.le_trans (Kn.dig_len_le (k := a.length + 1) ?_) (by omega)
        rw [hT.out, Kn.pw_add]
        exact Nat.mul_lt_mul'' HW.out (by rw [Kn.pw_succ, Kn.pw_zero]; omega)
      have HTM := Lib.hid (fun (W : World) (h : Sl W W.heap.size A ca a) => (by have := rtimesWord_any A ca a x W h (by omega) (by omega); rwa [← hT.out] at this : Calls Tryd.prog 61 #[.slice A a.length ca, .int .u64 (x : Int)] W (MagRes T W)))
      have HWD : Hid (Kn.Wd (Kn.dig N)) := Lib.hid (Kn.dig_wd N)
      by_cases hN0 : N = 0
      · subst hN0
        rw [Kn.dig_zero] at M ⊢
        have HAD := Lib.hid (fun (W : World) (g : Nat) (E : Option Addr) (ce : Nat) (h1 : W.cell? ⟨g, 0, none⟩ = some (.int .u32 0)) (h2 : Sl W W.heap.size E ce (Kn.dig T)) => (by have := raddWords_any (some ⟨g, 0, none⟩) 1 [0] E ce (Kn.dig T) W (sl_one h1 (by decide)) h2 (by simp) (by omega); rw [Kn.val_one, Kn.val_dig, Nat.zero_add] at this; exact this : Calls Tryd.prog 85 #[.slice (some ⟨g, 0, none⟩) 1 1, .slice E (Kn.dig T).length ce] W (MagRes T W)))
        have HN9 : Hid (T = Kn.val a * Kn.val (b.drop j)) := Lib.hid (by rw [← HX.out, hT.out]; omega)
        go_wp2_with fail
        clear hcx
        have ex : IntKind.u64.wrap (x : Int) = (x : Int) := wrap_nat (by omega)
        have n0 : (wr.alloc (.cells #[.int .u32 0] 39)).drew.cell? ⟨wr.heap.size, 0, none⟩ = some (.int .u32 0) := new0 wr
        cases C
        all_goals
          go_region_held3 (fun w' => w'.cell? ⟨bb, off + j, none⟩ = some (.int .u32 (x : Int)))
            (first | exact M.drew.cell hj hx | exact (M.alloc _).drew.cell hj hx | exact M.cell hj hx)
            (first
              | (go_at_call 61; (with_reducible refine (HTM.out _ (M.alloc _).drew.a).mono ?_); rintro e w' ⟨At, ct, rfl, hT2, hb⟩; have kz := (hb.cell (p := ⟨wr.heap.size, 0, none⟩) (by simp)).trans n0; replace M := (M.alloc _).drew.below hb; clear hb)
              | (go_at_call 85; (with_reducible refine (HAD.out _ _ _ _ kz hT2).mono ?_); rintro e w9 ⟨A9, c9, rfl, hR, hb9⟩; replace M := M.below hb9; clear hb9))
          have M9 : Mu w w9 A ca a (some ⟨bb, off, none⟩) cb b A9 c9 (Kn.dig T) := ⟨M.a, M.b, hR, M.bel⟩
          go_wp2_with fail
          go_roundw
          case rel => exact ⟨(j : Int) - 1, j, T, A9, c9, by omega, by go_num, Lib.hid rfl, by omega, by omega, rfl, HN9, M9⟩
          case measure => simp [intOf]
      · have hNp : 0 < (Kn.dig N).length := Kn.dig_len_pos.2 (by omega)
        obtain ⟨bo, oo, hCe, _, _⟩ := M.o.nums.row.cells (by rw [List.length_map]; exact hNp)
        subst hCe
        have HVA : Hid (Kn.val (0 :: Kn.dig N) = 4294967296 * N) := Lib.hid (by rw [Kn.val_cons, Kn.val_dig]; omega)
        have HWO : Hid (Kn.Wd (0 :: Kn.dig N)) := Lib.hid (Kn.Wd.cons (by decide) HWD.out)
        have HON : Hid (u32s (0 :: Kn.dig N) = [Value.int .u32 0] ++ u32s (Kn.dig N)) := Lib.hid rfl
        have hlm := Lib.hid (show (u32s (Kn.dig N)).length = (Kn.dig N).length * 1 by rw [u32s_len, Nat.mul_one])
        have HAD := Lib.hid (fun (W : World) (D : Option Addr) (cd : Nat) (E : Option Addr) (ce : Nat) (h1 : Sl W W.heap.size D cd (0 :: Kn.dig N)) (h2 : Sl W W.heap.size E ce (Kn.dig T)) => (by have := raddWords_any D cd (0 :: Kn.dig N) E ce (Kn.dig T) W h1 h2 (by simp; omega) (by omega); rw [HVA.out, Kn.val_dig, show (0 :: Kn.dig N).length = 1 + (Kn.dig N).length by simp; omega] at this; exact this : Calls Tryd.prog 85 #[.slice D (1 + (Kn.dig N).length) cd, .slice E (Kn.dig T).length ce] W (MagRes (4294967296 * N + T) W)))
        have HSL := Lib.hid (fun (W : World) (g : Nat) (D : Option Addr) (cd : Nat) (h1 : W.ownsRow g 39 1 (.slice D (1 + (Kn.dig N).length) cd) (1 + (Kn.dig N).length) ([Value.int .u32 0] ++ u32s (Kn.dig N))) (h2 : 1 + (Kn.dig N).length ≤ cd) => (Sl.of_own (l := 0 :: Kn.dig N) h1 HWO.out h2 (by simp; omega) : Sl W W.heap.size D cd (0 :: Kn.dig N)))
        clear hN0
        go_wp2_with fail
        clear hcx
        have ex : IntKind.u64.wrap (x : Int) = (x : Int) := wrap_nat (by omega)
        have n0 : (wr.alloc (.cells #[.int .u32 0] 39)).drew.cell? ⟨wr.heap.size, 0, none⟩ = some (.int .u32 0) := new0 wr
        go_region_held3 (fun w' => w'.cell? ⟨bb, off + j, none⟩ = some (.int .u32 (x : Int)))
          (first | exact M.drew.cell hj hx | exact (M.alloc _).drew.cell hj hx | exact M.cell hj hx)
          (first
            | (go_at_call 61; (with_reducible refine (HTM.out _ M.a).mono ?_); rintro e w' ⟨At, ct, rfl, hT2, hb⟩; replace M := M.below hb; replace hS := hS.nx hb; clear hb)
            | (go_at_call 85; (with_reducible refine (HAD.out _ _ _ _ _ hS hT2).mono ?_); rintro e w9 ⟨A9, c9, rfl, hR, hb9⟩; replace M := M.below hb9; clear hb9)
            | ((refine step_append_grows (by rfl) (.tmp 15) (.tmp 16) 22 (by rfl) 39 i0 (.int .u32 0) 1 4 Tryd.underlying22 hi hz0 hz1 hz2 rfl (by decide) (some ⟨wr.heap.size, 0, none⟩) 1 1 [.int .u32 0] (by rfl) (by simp) (by rfl) (hold_one n0) ⟨bo, oo, none⟩ (Kn.dig N).length cc (u32s (Kn.dig N)) (by rfl) hlm.out (news_of (M.alloc _).drew.o) (u32s_one _) (by omega) (by unfold maxLen; omega) (by omega) ?_; intro v' w8 hown8 hgrow; have hb8 := grown_below hgrow; replace M := (M.alloc _).drew.below hb8; obtain ⟨A8, c8, rfl, hc8⟩ := own_slice hown8; have hS := HSL.out _ _ _ _ hown8 hc8; clear hown8 hgrow hb8)))
        have M9 : Mu w w9 A ca a (some ⟨bb, off, none⟩) cb b A9 c9 (Kn.dig (4294967296 * N + T)) := ⟨M.a, M.b, hR, M.bel⟩
        have HN9 : Hid (4294967296 * N + T = Kn.val a * Kn.val (b.drop j)) := Lib.hid (by rw [← HX.out, hT.out]; omega)
        go_wp2_with fail
        go_roundw
        case rel => exact ⟨(j : Int) - 1, j, 4294967296 * N + T, A9, c9, by omega, by go_num, Lib.hid rfl, by omega, by omega, rfl, HN9, M9⟩
        case measure => simp [intOf]
    · obtain rfl : k = 0 := by have := hz.out; omega
      have HE : Hid (N = Kn.val a * Kn.val b) := Lib.hid (by have := HN.out; rwa [List.drop_zero] at this)
      go_wp2_with fail
      go_ret
      exact ⟨C, cc, by rw [← HE.out]; rfl, by rw [← HE.out]; exact M.o, M.bel⟩
end Go.Proofs.YtmhfdmidaheoeaaDoor
