/- Walks: successor. -/
import Derived.Test.YtdfkgkgglldokaaWa
import Derived.Test.YtdfkgkgglldokaaW8
import Derived.Test.YtdfkgkgglldokaaAllM
import Derived.Laws.CopyOwn
namespace Go.Proofs.Ytdfkgkgglldokaa
open Go.RowKit Go.Maps
set_option linter.unusedVariables false

/-- what successor hands back -/
def SucRes (o : Option (List Nat)) (w : World) (e : Ending) (w' : World) : Prop :=
  Below w.heap.size w w' ∧ match o with
    | none => e = .returned (.tuple #[.slice none 0 0, .bool false])
    | some q => ∃ g c, e = .returned (.tuple #[.slice (some ⟨g, 0, none⟩) q.length c, .bool true]) ∧ IBlk w' g (Kp.zN q) ∧ w.heap.size ≤ g ∧ q.length ≤ c

namespace Kp
theorem zN_append (a b : List Nat) : zN (a ++ b) = zN a ++ zN b := by simp [zN]
theorem zN_take (a : List Nat) (k : Nat) : (zN a).take k = zN (a.take k) := by simp [zN, List.map_take]
theorem zN_rep (n : Nat) : zN (List.replicate n 0) = List.replicate n 0 := by simp [zN]
theorem take_snoc (ws : List Nat) (k : Nat) (hk : k < ws.length) : ws.take (k + 1) = ws.take k ++ [ws.getD k 0] := by
  rw [List.take_add_one, List.getD_eq_getElem?_getD, List.getElem?_eq_getElem hk]; rfl
/-- the list that follows -/
def nextL (ws : List Nat) (j : Nat) : List Nat := ws.take (j + 1) ++ (ws.getD (j + 1) 0 + 1) :: List.replicate (ws.length - (j + 2)) 0
theorem nextL_length (ws : List Nat) (j : Nat) (h : j + 1 < ws.length) : (nextL ws j).length = ws.length := by
  unfold nextL
  rw [List.length_append, List.length_cons, List.length_replicate, List.length_take]; omega
theorem sucAt_hit {ws : List Nat} {j : Nat} (h : ws.getD (j + 1) 0 < up 0 (ws.take (j + 1))) : sucAt ws (j + 1) = some (nextL ws j) := by
  show (if Nat.blt _ _ = true then _ else _) = _
  rw [if_pos (by rw [Nat.blt_eq]; exact h)]; rfl
theorem sucAt_miss {ws : List Nat} {j : Nat} (h : ¬ ws.getD (j + 1) 0 < up 0 (ws.take (j + 1))) : sucAt ws (j + 1) = sucAt ws j := by
  show (if Nat.blt _ _ = true then _ else _) = _
  rw [if_neg (by rw [Nat.blt_eq]; exact h)]
/-- the row behind the copy -/
def midL (ws : List Nat) (m : Nat) : List Nat := ws.take m ++ List.replicate (ws.length - m) 0
theorem midL_set (ws : List Nat) (j : Nat) (h : j + 1 < ws.length) : (zN (midL ws (j + 2))).set (j + 1) (((ws.getD (j + 1) 0 : Nat) : Int) + 1) = zN (nextL ws j) := by
  unfold midL nextL
  rw [take_snoc ws (j + 1) h, List.append_assoc, zN_append, zN_append, List.set_append_right]
  · have e : (j + 1) - (zN (ws.take (j + 1))).length = 0 := by rw [zN_length, List.length_take]; omega
    rw [e]
    simp [zN]
  · rw [zN_length, List.length_take]; omega
theorem midL_get (ws : List Nat) (j : Nat) (h : j + 1 < ws.length) : (zN (midL ws (j + 2))).getD (j + 1) 0 = ((ws.getD (j + 1) 0 : Nat) : Int) := by
  have := lab_zN (midL ws (j + 2)) (j + 1)
  unfold lab at this
  rw [this]
  congr 1
  unfold midL
  rw [take_snoc ws (j + 1) h, List.append_assoc, List.getD_eq_getElem?_getD, List.getElem?_append_right (by rw [List.length_take]; omega)]
  have e : (j + 1) - (ws.take (j + 1)).length = 0 := by rw [List.length_take]; omega
  rw [e]; rfl
end Kp
theorem splice_row (ws : List Nat) (m : Nat) (hm : m ≤ ws.length) : (splice (zvals (List.replicate ws.length 0)) 0 (zvals (Kp.zN (ws.take m)))).toArray = zcells (Kp.zN (Kp.midL ws m)) := by
  unfold splice zcells Kp.midL
  rw [Kp.zN_append, Kp.zN_rep, List.map_append]
  have e : (zvals (Kp.zN (ws.take m))).length = m := by rw [zvals_length, Kp.zN_length, List.length_take]; omega
  rw [e]
  simp [zvals]

theorem sizeInt : (Try.prog.info? 3).map (·.size) = some 1 := by kernel_rfl

set_option maxRecDepth 100000 in
set_option maxHeartbeats 4000000 in
theorem suc_any (A : Option Addr) (c : Nat) (ws : List Nat) (w : World) (h : Ints w w.heap.size A (Kp.zN ws)) (hr : Kp.rgs 0 ws = true) (hl : ws.length ≤ 1000) (hcap : ws.length ≤ c) :
    Calls Try.prog 41 #[.slice A ws.length c] w (SucRes (Kp.suc ws) w) := by
  have hmk := makeInts ws.length (by omega)
  have hcnt : ∀ k, k ≤ ws.length → ∀ W, Below w.heap.size w W → Calls Try.prog 16 #[.slice A k c] W fun e w' => e = .returned (.int .i64 ((Kp.up 0 (ws.take k) : Nat) : Int)) ∧ Below W.heap.size W w' := by
    intro k hk W hW
    have hlen : ((Kp.zN ws).take k).length = k := by rw [List.length_take, Kp.zN_length]; omega
    have := bcount_any A c ((Kp.zN ws).take k) W ((h.at hW).take k) (by omega)
    rw [hlen, Kp.zN_take, Kp.cnt0_zN (Kp.rgs_take ws k 0 hr)] at this
    exact this
  have HC := Lib.hid hcnt
  have HR := Lib.hid hr
  clear hcnt hr
  go_enter Try.func41, Try.ntmps41
  go_wp2_with fail
  go_loopw [4] (fun iv wr => ∃ z : Int, iv = .int .i64 z ∧ -1 ≤ z ∧ z < (ws.length : Int) ∧ Below w.heap.size w wr ∧ Hid (Kp.suc ws = Kp.sucAt ws z.toNat)) (fun iv _ => (intOf iv).toNat)
  case atStart => exact ⟨(ws.length : Int) - 1, by go_num, by omega, by omega, Below.refl _ _, Lib.hid (by unfold Kp.suc; congr 1; omega)⟩
  case round =>
    obtain ⟨z, rfl, hz1, hz2, hB, hS⟩ := hrel
    by_cases hz : 0 < z
    · obtain ⟨j, rfl⟩ : ∃ j : Nat, z = ((j + 1 : Nat) : Int) := ⟨z.toNat - 1, by omega⟩
      have hj : j + 1 < ws.length := by omega
      rw [show (((j + 1 : Nat) : Int)).toNat = j + 1 by omega] at hS
      obtain ⟨b, off, x, rfl, hbb, hc, hx⟩ := h.at_ (k := j + 1) (by rw [Kp.zN_length]; exact hj)
      obtain ⟨y, hy⟩ : ∃ y, Hid (ws.getD (j + 1) 0 = y) := ⟨_, Lib.hid rfl⟩
      obtain rfl : x = (y : Int) := by have := hx.out.1; rw [← hy.out]; exact this.trans (Kp.lab_zN ws (j + 1))
      obtain ⟨u, hu⟩ : ∃ u, Hid (Kp.up 0 (ws.take (j + 1)) = u) := ⟨_, Lib.hid rfl⟩
      have HJ := Lib.hid (HC.out (j + 1) (by omega))
      rw [hu.out] at HJ
      have hxc : ((j + 1 : Nat) : Int) ≤ (c : Int) := by omega
      have hj1 : (j : Int) + 1 < (ws.length : Int) := by omega
      have hj0 : (0 : Int) ≤ (j : Int) + 1 := by omega
      have hxc2 : (j : Int) + 1 ≤ (c : Int) := by omega
      have hcw : wr.drew.cell? ⟨b, off + (j + 1), none⟩ = some (.int .i64 (y : Int)) := (hB.cell (p := ⟨b, off + (j + 1), none⟩) hbb).trans hc
      have K : Below w.heap.size w wr.drew := bDrew hB 1
      have hQ : ∀ W, Below w.heap.size w W → ∀ k v, (zvals (Kp.zN (ws.take (j + 2))))[k]? = some v → W.cell? ⟨b, off + k, none⟩ = some v := by
        intro W hW k v hk
        obtain ⟨b', off', e, hb', hc'⟩ := h.row.cells (by rw [List.length_map, Kp.zN_length]; omega)
        injection e with e
        injection e with e1 e2
        subst e1 e2
        refine (hW.cell (p := ⟨b, off + k, none⟩) hb').trans (hc' k v ?_)
        rw [← Kp.zN_take, zvals, List.getElem?_map, List.getElem?_take] at hk
        split at hk
        · rw [List.getElem?_map]; exact hk
        · simp at hk
      obtain ⟨X, hX⟩ : ∃ X, Hid (zvals (Kp.zN (ws.take (j + 2))) = X) := ⟨_, Lib.hid rfl⟩
      obtain ⟨Z, hZ⟩ : ∃ Z, Hid (zvals (List.replicate ws.length 0) = Z) := ⟨_, Lib.hid rfl⟩
      have hXl : Hid (X.length = j + 1 + 1) := Lib.hid (by rw [← hX.out, zvals_length, Kp.zN_length, List.length_take]; omega)
      have hZl : Hid (Z.length = ws.length) := Lib.hid (by rw [← hZ.out, zvals_length, List.length_replicate])
      have hyb : y ≤ 1000 := by
        have hm : y ∈ ws := by
          rw [← hy.out, List.getD_eq_getElem?_getD, List.getElem?_eq_getElem hj]
          exact List.getElem_mem hj
        have := Kp.rgs_bd ws 0 HR.out y hm
        omega
      have hxc3 : (j : Int) + 1 + 1 ≤ (c : Int) := by omega
      have HQ := Lib.hid hQ
      clear hQ
      have hA := Lib.hid h
      have hc0 := hc
      clear h
      by_cases hlt : y < u
      · have hlt1 : (y : Int) < (u : Int) := by omega
        have hres : Hid (Kp.suc ws = some (Kp.nextL ws j)) := Lib.hid (hS.out.trans (Kp.sucAt_hit (by rw [hy.out, hu.out]; exact hlt)))
        clear hS hlt
        go_wp2_with fail
        go_region_held3 (fun w' => w'.cell? ⟨b, off + (j + 1), none⟩ = some (.int .i64 (y : Int)))
          (exact (K.cell (p := ⟨b, off + (j + 1), none⟩) hbb).trans hc0)
          (first | (go_at_call 16; (with_reducible refine (HJ.out _ K).mono ?_); rintro e w4 ⟨rfl, m⟩; replace K := K.trans (m.mono K.size); clear m))
        all_goals
          go_wp2_with (with_reducible refine wpList_copy_splice (o := ⟨some 30, _, _, _, _, _⟩) rfl (.tmp 25) (.tmp 29) 22 22 rfl 3 Try.underlying22 sizeInt (some ⟨w4.heap.size, 0, none⟩) (some ⟨b, off, none⟩) ws.length ws.length (j + 1 + 1) c rfl rfl w4.heap.size 0 Z 3 ?c1 X ?c2 ?c3 ?c4 ?c5 w4.heap.size w4 ?c6 (Nat.le_refl _) ?_)
          case c1 => exact (IBlk.new_ w4 (List.replicate ws.length 0)).trans (by rw [← hZ.out]; rfl)
          case c2 => rw [hXl.out]; exact (Nat.min_eq_left (by omega)).symm
          case c3 => intro _; exact fun k v hk => HQ.out _ (K.alloc K.size _) k v (by rw [hX.out]; exact hk)
          case c4 => rw [hXl.out, hZl.out]; omega
          case c5 => intro v hv; rw [← hX.out] at hv; obtain ⟨q, _, rfl⟩ := List.mem_map.1 hv; rfl
          case c6 => exact (Below.refl _ _).alloc (Nat.le_refl _) _
          intro w6 HG m6
          have I6 : IBlk w6 w4.heap.size (Kp.zN (Kp.midL ws (j + 2))) := by
            unfold IBlk
            rw [HG.out, ← hZ.out, ← hX.out, splice_row _ _ (by omega)]
          have K6 : Below w.heap.size w w6 := K.trans (m6.mono K.size)
          have hc6 := I6.cell (k := j + 1) (by rw [Kp.zN_length]; unfold Kp.midL; rw [List.length_append, List.length_take, List.length_replicate]; omega)
          have hf6 := I6.frozen (j + 1)
          have I7 := I6.set_ (j + 1) ((y : Int) + 1)
          rw [Kp.midL_get ws j hj, hy.out] at hc6
          rw [← hy.out, Kp.midL_set ws j hj, hy.out] at I7
          have K7 := K6.setCell (p := ⟨w4.heap.size, j + 1, none⟩) K.size (.int .i64 ((y : Int) + 1))
          have hg := Lib.hid K.size
          clear HG m6 I6 K6
          generalize w4.heap.size = g at *
          go_wp2_with fail
          refine bodyPost_ret (v := .tuple #[.slice (some ⟨g, 0, none⟩) ws.length ws.length, .bool true]) (by simp [results, Try.results41, go_sem]) rfl ?_
          refine ⟨K7, ?_⟩
          rw [hres.out]
          exact ⟨g, ws.length, by rw [Kp.nextL_length _ _ hj], I7, hg.out, by rw [Kp.nextL_length _ _ hj]; exact Nat.le_refl _⟩
      · have hlt1 : ¬ (y : Int) < (u : Int) := by omega
        have hres : Hid (Kp.suc ws = Kp.sucAt ws j) := Lib.hid (hS.out.trans (Kp.sucAt_miss (by rw [hy.out, hu.out]; exact hlt)))
        clear hS hlt
        go_wp2_with fail
        go_region_held3 (fun w' => w'.cell? ⟨b, off + (j + 1), none⟩ = some (.int .i64 (y : Int)))
          (exact (K.cell (p := ⟨b, off + (j + 1), none⟩) hbb).trans hc0)
          (first | (go_at_call 16; (with_reducible refine (HJ.out _ K).mono ?_); rintro e w4 ⟨rfl, m⟩; replace K := K.trans (m.mono K.size); clear m))
        all_goals
          go_wp2_with fail
          go_roundw
          case rel => exact ⟨(j : Int), by go_num, by omega, by omega, K, Lib.hid (by rw [hres.out]; congr 1)⟩
          case measure => simp [intOf]
    · have hz3 : ¬ (0 < z) := hz
      have hres : Hid (Kp.suc ws = none) := Lib.hid (by rw [hS.out, show z.toNat = 0 by omega]; rfl)
      go_wp2_with fail
      refine bodyPost_ret (v := .tuple #[.slice none 0 0, .bool false]) (by simp [results, Try.results41, go_sem]) rfl ?_
      exact ⟨hB, by rw [hres.out]⟩
end Go.Proofs.Ytdfkgkgglldokaa
