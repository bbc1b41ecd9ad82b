/- Walks: the package's ascending. -/
import Derived.Test.YtckenemkfegopaaDoorT4
import Derived.Test.YtckenemkfegopaaDoorTd
import Derived.Test.YtckenemkfegopaaDoorTc
namespace Go.Proofs.YtckenemkfegopaaDoor
open Go.RowKit
set_option linter.unusedVariables false

theorem bs_mk (l : List UInt8) : bs (mkB l) = l := by simp [bs, mkB]
theorem mk_bs (s : ByteArray) : mkB (bs s) = s := by simp [bs, mkB]
theorem bs_inj {s t : ByteArray} (h : bs s = bs t) : s = t := by rw [← mk_bs s, ← mk_bs t, h]
theorem bs_toList (s : ByteArray) : s.toList = bs s := ByteArray.toList_eq s
theorem empty_yes {t : List UInt8} (h : t = []) : (mkB t).toList.isEmpty = true := by rw [bs_toList, bs_mk, h]; rfl
theorem empty_no {t : List UInt8} (h : t ≠ []) : (mkB t).toList.isEmpty = false := by rw [bs_toList, bs_mk]; cases t with | nil => exact absurd rfl h | cons _ _ => rfl

def zvals (zs : List Int) : List Value := zs.map fun x => Value.int .i64 x
theorem zvals_length (zs : List Int) : (zvals zs).length = zs.length := by simp [zvals]
theorem zvals_snoc (zs : List Int) (x : Int) : zvals (zs ++ [x]) = zvals zs ++ [.int .i64 x] := by simp [zvals]
/-- a row of ints that the call makes -/
structure OwInv (w wr : World) (v : Value) (zs : List Int) : Prop where
  own : wr.ownsRow w.heap.size 3 1 v zs.length (zvals zs)
  bel : Below w.heap.size w wr
theorem OwInv.below {w wr wx : World} {v : Value} {zs : List Int} (h : OwInv w wr v zs) (hb : Below wr.heap.size wr wx) : OwInv w wx v zs :=
  ⟨h.own.kept (row := none) ⟨hb.os, hb.tape, hb.output, hb.size, fun k hk _ => hb.block k hk⟩ (by cases hv : v.ownBlock <;> simp), h.bel.trans (hb.mono h.bel.size)⟩
theorem OwInv.drewN {w wr : World} {v : Value} {zs : List Int} (h : OwInv w wr v zs) (n : Nat) : OwInv w (wr.drewN n) v zs := h.below ⟨rfl, rfl, rfl, Nat.le_refl _, fun _ _ => rfl⟩
theorem OwInv.grown {w wr w3 : World} {v v' : Value} {zs : List Int} {x : Int} {o : Obj} (h : OwInv w wr v zs)
    (ho : w3.ownsRow w.heap.size 3 1 v' (zs.length + 1) (zvals zs ++ [.int .i64 x])) (hg : (wr.alloc o).grownBy w3 v.ownBlock) : OwInv w w3 v' (zs ++ [x]) where
  own := by rw [zvals_snoc, List.length_append]; exact ho
  bel := (h.bel.alloc h.bel.size o).grown hg (by have := h.bel.size; simp; omega) (fun k e => (h.own.lt k e).1)
theorem OwInv.nil (w : World) : OwInv w w (.slice none 0 0) [] := ⟨World.ownsRow_nil _ _ _ _, Below.refl _ _⟩
theorem OwInv.res {w wr : World} {v : Value} {zs : List Int} (h : OwInv w wr v zs) (hlt : ∀ x ∈ zs, -9223372036854775808 ≤ x ∧ x ≤ 9223372036854775807) : ∃ A c, v = .slice A zs.length c ∧ Ints wr wr.heap.size A zs ∧ Below w.heap.size w wr := by
  obtain ⟨A, c, hv⟩ := own_slice h.own
  have ho := h.own
  rw [hv] at ho
  exact ⟨A, c, hv, ⟨Row.of_own ho, hlt⟩, h.bel⟩

def strSz : Value → Nat | .string s => s.size | _ => 0
/-- what ascending hands back -/
def AscRes (l : List UInt8) (w : World) (e : Ending) (w' : World) : Prop :=
  Below w.heap.size w w' ∧ ((Kt.ascA (-1) l = none ∧ e = .returned (.tuple #[.slice none 0 0, .bool false])) ∨
    ∃ zs A c, Kt.ascA (-1) l = some zs ∧ e = .returned (.tuple #[.slice A zs.length c, .bool true]) ∧ Ints w' w'.heap.size A zs ∧ zs.length ≤ l.length)
theorem map_none {α β : Type} {f : α → β} {o : Option α} (h : o = none) : o.map f = none := by rw [h]; rfl

set_option maxRecDepth 100000 in
set_option maxHeartbeats 2000000 in
theorem ascending_any (s : ByteArray) (hs : s.size ≤ 1000000) (w : World) (hT : BtT w) :
    Calls Tryd.prog 98 #[.string s] w (AscRes (bs s) w) := by
  obtain ⟨i0, hi, hz0, hz1, hz2⟩ := info_parts infoInt
  have hlen := bs_length s
  go_enter Tryd.func98, Tryd.ntmps98
  go_wp2_with fail
  go_loopw [0, 4, 5] (fun lv mv av wr => ∃ (l : List UInt8) (zs : List Int) (last : Int), lv = .string (mkB l) ∧ av = .int .i64 last ∧ OwInv w wr mv zs ∧ zs.length + l.length ≤ s.size ∧
      (-9223372036854775808 ≤ last ∧ last ≤ 9223372036854775807) ∧ (∀ x ∈ zs, -9223372036854775808 ≤ x ∧ x ≤ 9223372036854775807) ∧ Hid (Kt.ascA (-1) (bs s) = (Kt.ascA last l).map (zs ++ ·))) (fun lv _ _ _ => strSz lv)
  case atStart => exact ⟨bs s, [], -1, by rw [mk_bs], rfl, OwInv.nil w, by simp; omega, by omega, by simp, Lib.hid (by cases Kt.ascA (-1) (bs s) <;> rfl)⟩
  case round =>
    obtain ⟨l, zs, last, rfl, rfl, I, hle, hlast, hzs, HE⟩ := hrel
    by_cases h0 : l = []
    · have he := empty_yes h0
      subst h0
      obtain ⟨A, c, rfl, hA, hB⟩ := I.res hzs
      have HR : Kt.ascA (-1) (bs s) = some zs := by rw [HE.out, Kt.ascA_nil]; simp
      go_wp2_with fail
      go_ret2
      exact ⟨hB, .inr ⟨zs, A, c, HR, rfl, hA, by omega⟩⟩
    · have he := empty_no h0
      have hl1 := Kt.cut_less (sep := [44, 32]) h0 (by simp)
      have hl2 := Kt.cut_fst_le l [44, 32]
      go_wp2_with fail
      refine (cut_any (mkB l) ⟨#[44, 32]⟩ (by rw [mk_size]; omega) _ (hT.below I.bel)).mono ?_
      rintro e wx ⟨rfl, q, rfl⟩
      have I1 := I.drewN q
      clear I
      rw [bs_mk, show bs ⟨#[44, 32]⟩ = [44, 32] from rfl]
      revert I1
      generalize wr.drewN q = wy
      intro I1
      go_wp2_with fail
      refine (atoi_ans (mkB (Lib.cut l [44, 32]).1) (by rw [mk_size]; omega) _ (hT.below I1.bel)).mono ?_
      rintro e wz ⟨hbz, ⟨v, hv, rfl⟩ | ⟨hv, v, N, rfl⟩⟩
      · rw [bs_mk] at hv
        have I2 := I1.below hbz
        clear I1 hbz
        have hvb := Lib.atoiAll_bounds hv
        by_cases hlow : v ≤ last
        · have HR : Kt.ascA (-1) (bs s) = none := by rw [HE.out, Kt.ascA_low h0 hv hlow]; rfl
          have hB := I2.bel
          clear hv
          go_wp2_with fail
          go_ret2
          exact ⟨hB, .inl ⟨HR, rfl⟩⟩
        · have HN : Hid (Kt.ascA (-1) (bs s) = (Kt.ascA v (Lib.cut l [44, 32]).2.1).map ((zs ++ [v]) ++ ·)) := Lib.hid (by
            rw [HE.out, Kt.ascA_ok h0 hv hlow]
            cases Kt.ascA v (Lib.cut l [44, 32]).2.1 <;> simp)
          clear hv HE
          revert HN hl1 hl2
          generalize Lib.cut l [44, 32] = p
          intro hl1 hl2 HN
          obtain ⟨A', c', rfl⟩ := own_slice I2.own
          have ho := I2.own
          go_wp2_with (at_builtin; refine wpList_append_own _ rfl _ _ 86 rfl w.heap.size 3 i0 (.int .i64 0) 1 8 Tryd.underlying86 hi hz0 hz1 hz2 rfl (by decide) _ _ _ rfl (ho.alloc _) ⟨_, 0, none⟩ 1 1 [.int .i64 v] rfl rfl ?c1 ?c2 ?c3 ?c4 ?c5 ?_)
          case c1 => exact cell_one_new _ _ _
          case c2 => intro u hu; simp at hu; subst hu; rfl
          case c3 => unfold maxLen; omega
          case c4 => omega
          case c5 => have := I2.bel.size; first | omega | (simp; omega)
          intro v' w3 hown' hgrow _
          have I3 := I2.grown (x := v) hown' hgrow
          clear hown' hgrow I2 ho
          go_wp2_with fail
          go_roundw
          case rel => exact ⟨p.2.1, zs ++ [v], v, rfl, rfl, I3, by simp; omega, hvb, by
            intro x hx
            rcases List.mem_append.1 hx with hx | hx
            · exact hzs x hx
            · rw [List.mem_singleton.1 hx]; exact hvb, HN⟩
          case measure => simp [strSz, mk_size]; omega
      · rw [bs_mk] at hv
        have hB := I1.bel.trans (hbz.mono I1.bel.size)
        have HR : Kt.ascA (-1) (bs s) = none := by rw [HE.out, Kt.ascA_bad h0 hv]; rfl
        clear hv
        go_wp2_with fail
        go_ret2
        exact ⟨hB, .inl ⟨HR, rfl⟩⟩
end Go.Proofs.YtckenemkfegopaaDoor
