/- Walks: Sign, Valid, signed, slices.Clone. -/
import Derived.Test.YtmhfdmidaheoeaaDoorW1
import Derived.WalkSpells
import Derived.Lib.SliceRun
import Derived.Laws.AppendOwn
import Derived.Deep.OwnRows
namespace Go.Proofs.YtmhfdmidaheoeaaDoor
open Go.RowKit
set_option linter.unusedVariables false

theorem val_nil_of {ws : List Nat} {m : Nat} (hm : m = (Kn.dig (Kn.val ws)).length) : (m = 0 ↔ Kn.val ws = 0) := by
  rw [hm, List.length_eq_zero_iff, Kn.dig_nil]

set_option maxHeartbeats 400000 in
theorem sign_any (neg : Bool) (A : Option Addr) (c : Nat) (ws : List Nat) (w : World) (h : Sl w w.heap.size A c ws) (hl : ws.length ≤ 1000000000) :
    Calls Tryd.prog 12 #[intV neg A ws.length c] w fun e w' => e = .returned (.int .i64 (Kn.iv neg ws).sign) ∧ Below w.heap.size w w' := by
  obtain ⟨m, hm⟩ : ∃ m : Nat, Hid (m = (Kn.dig (Kn.val ws)).length) := ⟨_, Lib.hid rfl⟩
  have hv := Lib.hid (val_nil_of hm.out)
  have hT : ∀ w : World, ∀ B, Sl w B A c ws → Calls Tryd.prog 25 #[.slice A ws.length c] w fun e w' => e = .returned (.slice A m c) ∧ w = w' := fun w B h => by
    rw [hm.out]; exact trim_any A c ws w B h hl
  have HT := Lib.hid hT
  clear hT
  unfold intV
  have hX := h.alloc (Nat.le_refl _) (.cells #[.bool neg, .slice A ws.length c] 24)
  by_cases h0 : m = 0
  · have hm0 : ((m : Int) == 0) = true := by simp; omega
    have H0 := Lib.hid h0
    clear h0
    go_enter Tryd.func12, Tryd.ntmps12
    go_wp2_with (go_at_call 25; refine (HT.out _ _ hX).mono ?_; rintro e w' ⟨rfl, rfl⟩)
    go_ret
    exact ⟨ret_int (by have := hv.out.1 H0.out; unfold Kn.iv; cases neg <;> simp [this]), (Below.refl _ _).alloc (Nat.le_refl _) _⟩
  · have hm0 : ((m : Int) == 0) = false := by simp; omega
    have H0 := Lib.hid h0
    clear h0
    have hp : Hid (0 < Kn.val ws) := Lib.hid (by have := mt hv.out.2 H0.out; omega)
    cases neg
    · go_enter Tryd.func12, Tryd.ntmps12
      go_wp2_with (go_at_call 25; refine (HT.out _ _ hX).mono ?_; rintro e w' ⟨rfl, rfl⟩)
      go_ret
      exact ⟨ret_int (by have := hp.out; unfold Kn.iv; simp; exact (Int.sign_eq_one_iff_pos.2 (by omega)).symm), (Below.refl _ _).alloc (Nat.le_refl _) _⟩
    · go_enter Tryd.func12, Tryd.ntmps12
      go_wp2_with (go_at_call 25; refine (HT.out _ _ hX).mono ?_; rintro e w' ⟨rfl, rfl⟩)
      go_ret
      exact ⟨ret_int (by have := hp.out; unfold Kn.iv; simp; exact (Int.sign_eq_one_iff_pos.2 (by omega)).symm), (Below.refl _ _).alloc (Nat.le_refl _) _⟩

/-- canonical? -/
def vld (neg : Bool) (ws : List Nat) : Bool := if ws.length = 0 then !neg else !(ws.getD (ws.length - 1) 0 == 0)

set_option maxHeartbeats 400000 in
theorem valid_any (neg : Bool) (A : Option Addr) (c : Nat) (ws : List Nat) (w : World) (h : Sl w w.heap.size A c ws) (hl : ws.length ≤ 1000000000) :
    Calls Tryd.prog 24 #[intV neg A ws.length c] w fun e w' => e = .returned (.bool (vld neg ws)) ∧ Below w.heap.size w w' := by
  unfold intV
  by_cases h0 : ws.length = 0
  · have hm0 : ((ws.length : Int) == 0) = true := by simp [h0]
    have H0 := Lib.hid h0
    clear h0
    go_enter Tryd.func24, Tryd.ntmps24
    go_wp2
    go_ret
    exact ⟨ret_bool (by unfold vld; rw [if_pos H0.out]), (Below.refl _ _).alloc (Nat.le_refl _) _⟩
  · have hm0 : ((ws.length : Int) == 0) = false := beq_eq_false_iff_ne.2 (by omega)
    have hp : 0 < ws.length := by omega
    have H0 := Lib.hid h0
    clear h0
    have hX := h.alloc (Nat.le_refl _) (.cells #[.bool neg, .slice A ws.length c] 24)
    obtain ⟨b, off, x, rfl, hb, hc, hx, hx2⟩ := hX.word (k := ws.length - 1) (by omega)
    have e1 : ((ws.length : Int) - 1).toNat = ws.length - 1 := by omega
    have e2 : (0 : Int) ≤ (ws.length : Int) - 1 := by omega
    go_enter Tryd.func24, Tryd.ntmps24
    go_wp2
    go_ret
    exact ⟨ret_bool (by unfold vld; rw [if_neg H0.out, ← hx.out, bne]; congr 1; rw [Bool.eq_iff_iff]; simp), (Below.refl _ _).alloc (Nat.le_refl _) _⟩

theorem int_zero {A : Option Addr} {w w' : World} {z : Int} (hz : z = 0) (hb : Below w.heap.size w w') : IntRes z w (.returned (intV false none 0 0)) w' := by
  subst hz
  refine ⟨none, 0, ?_, ?_, hb⟩
  · show _ = Ending.returned (intV (decide ((0 : Int) < 0)) none (Kn.dig 0).length 0)
    rw [Kn.dig_zero]; rfl
  · show Sl w' w'.heap.size none 0 (Kn.dig 0)
    rw [Kn.dig_zero]; exact Sl.nil _ _
/-- a canonical row is what it should be -/
theorem int_some {A : Option Addr} {c : Nat} {w w' : World} {neg : Bool} {ws : List Nat} (hp : 0 < Kn.val ws) (hs : Sl w' w'.heap.size A c (Kn.dig (Kn.val ws))) (hb : Below w.heap.size w w') :
    IntRes (Kn.iv neg ws) w (.returned (intV neg A (Kn.dig (Kn.val ws)).length c)) w' := by
  refine ⟨A, c, ?_, ?_, hb⟩
  · rw [Kn.iv_neg, Kn.iv_natAbs, decide_eq_true hp, Bool.and_true]
  · rw [Kn.iv_natAbs]; exact hs
/-- a row's canonical part -/
theorem Sl.trim {w : World} {B : Nat} {A : Option Addr} {c : Nat} {ws : List Nat} (h : Sl w B A c ws) : Sl w B A c (Kn.dig (Kn.val ws)) := by
  have hle := Kn.dig_len_val h.wd
  have e : ws.take (Kn.dig (Kn.val ws)).length = Kn.dig (Kn.val ws) := by
    have := Kn.trim_take h.wd
    exact this
  rw [← e]; exact h.take _

set_option maxHeartbeats 400000 in
theorem signed_any (neg : Bool) (A : Option Addr) (c : Nat) (ws : List Nat) (w : World) (h : Sl w w.heap.size A c ws) (hl : ws.length ≤ 1000000000) :
    Calls Tryd.prog 29 #[.bool neg, .slice A ws.length c] w (IntRes (Kn.iv neg ws) w) := by
  obtain ⟨m, hm⟩ : ∃ m : Nat, Hid (m = (Kn.dig (Kn.val ws)).length) := ⟨_, Lib.hid rfl⟩
  have hv := Lib.hid (val_nil_of hm.out)
  have hT : ∀ w : World, ∀ B, Sl w B A c ws → Calls Tryd.prog 25 #[.slice A ws.length c] w fun e w' => e = .returned (.slice A m c) ∧ w = w' := fun w B h => by
    rw [hm.out]; exact trim_any A c ws w B h hl
  have HT := Lib.hid hT
  clear hT
  have hX := h.alloc (Nat.le_refl _) (.cells #[.bool false, .slice none 0 0] 24)
  by_cases h0 : m = 0
  · have hm0 : ((m : Int) == 0) = true := by simp; omega
    have H0 := Lib.hid h0
    clear h0
    go_enter Tryd.func29, Tryd.ntmps29
    go_wp2_with (go_at_call 25; refine (HT.out _ _ hX).mono ?_; rintro e w' ⟨rfl, rfl⟩)
    refine bodyPost_ret (v := intV false none 0 0) (by simp [results, Tryd.results29, go_sem, intV]) rfl ?_
    refine int_zero (A := A) ?_ ?_
    · have := hv.out.1 H0.out; unfold Kn.iv; cases neg <;> simp [this]
    · exact (Below.refl _ _).alloc (Nat.le_refl _) _
  · have hm0 : ((m : Int) == 0) = false := by simp; omega
    have H0 := Lib.hid h0
    clear h0
    have hp : Hid (0 < Kn.val ws) := Lib.hid (by have := mt hv.out.2 H0.out; omega)
    go_enter Tryd.func29, Tryd.ntmps29
    go_wp2_with (go_at_call 25; refine (HT.out _ _ hX).mono ?_; rintro e w' ⟨rfl, rfl⟩)
    refine bodyPost_ret (v := intV neg A m c) (by simp [results, Tryd.results29, go_sem, intV]) rfl ?_
    rw [hm.out]
    exact int_some hp.out ((h.trim.alloc (Nat.le_refl _) _).more (by simp)) ((Below.refl _ _).alloc (Nat.le_refl _) _)

theorem infoU32 : (Tryd.prog.info? 39).map (fun i => (i.zero, i.size, i.bytes)) = some (some (.int .u32 0), 1, 4) := by kernel_rfl
theorem al1 (w : World) (o : Obj) : Below w.heap.size w (w.alloc o) := (Below.refl _ _).alloc (Nat.le_refl _) o
theorem own_slice {w : World} {base e n : Nat} {v : Value} {xs : List Value} (h : w.ownsRow base e 1 v n xs) : ∃ A c, v = .slice A n c ∧ n ≤ c := by
  rcases h.2 with ⟨rfl, h0⟩ | ⟨g, cap, cur, rfl, _, _, hh, _⟩
  · exact ⟨none, 0, by rw [h0], by omega⟩
  · exact ⟨_, cap, rfl, hh⟩
def u32s (l : List Nat) : List Value := l.map fun (x : Nat) => Value.int .u32 (x : Int)
theorem u32s_len (l : List Nat) : (u32s l).length = l.length := by unfold u32s; rw [List.length_map]
theorem u32s_one (l : List Nat) : ∀ u ∈ u32s l, u.oneCell' = true := by
  intro u hu
  obtain ⟨x, _, rfl⟩ := List.mem_map.1 hu
  rfl
theorem Sl.of_own {w : World} {base n c : Nat} {A : Option Addr} {l : List Nat} (h : w.ownsRow base 39 1 (.slice A n c) n (u32s l)) (hw : Kn.Wd l) (hc : n ≤ c) (hn : l.length = n) : Sl w w.heap.size A c l :=
  ⟨⟨Row.of_own h⟩, hw, by omega, fun e => by
    subst e
    rcases h.2 with ⟨e, _⟩ | ⟨g, cap, cur, e, _⟩
    · injection e
    · injection e with e1; cases e1⟩

set_option maxRecDepth 100000 in
set_option maxHeartbeats 400000 in
theorem clone_any (A : Option Addr) (c : Nat) (ws : List Nat) (w : World) (h : Sl w w.heap.size A c ws) (hl : ws.length ≤ 1000000000) :
    Calls Tryd.prog 39 #[.slice A ws.length c] w fun e w' => ∃ A' c', e = .returned (.slice A' ws.length c') ∧ Sl w' w'.heap.size A' c' ws ∧ Below w.heap.size w w' := by
  have hnil := fun (W : World) (a : Option Addr) (l c : Nat) => Lib.run_eql_slice_nil (P := Tryd.prog) W 22 39 a l c 0 0 Tryd.underlying22
  cases A with
  | none =>
    have hw0 : ws = [] := by
      by_cases h0 : 0 < ws.length
      · obtain ⟨b, off, x, e, _⟩ := h.word h0; cases e
      · exact List.eq_nil_of_length_eq_zero (by omega)
    subst hw0
    go_enter Tryd.func39, Tryd.ntmps39
    go_wp2
    go_ret
    exact ⟨none, 0, rfl, Sl.nil _ _, Below.refl _ _⟩
  | some ad =>
    obtain ⟨i0, hi, hz0, hz1, hz2⟩ := info_parts infoU32
    have hown : (w.alloc (.cells #[] 39)).ownsRow w.heap.size 39 1 (.slice (some ⟨w.heap.size, 0, none⟩) 0 0) 0 [] := World.ownsRow_made (e := 39) (size := 1) (base := w.heap.size) w #[] 0 (Nat.le_refl _) (by unfold maxLen; omega) rfl
    have hlm := Lib.hid (show (u32s ws).length = ws.length * 1 by rw [u32s_len, Nat.mul_one])
    have hnews : Hid (∀ j u, (u32s ws)[j]? = some u → (w.alloc (.cells #[] 39)).cell? (ad.add j) = some u) := Lib.hid (fun j u hu => by
      obtain ⟨b, off, e, hb, hc⟩ := h.nums.row.cells (by have := (List.getElem?_eq_some_iff.1 hu).1; rw [u32s_len] at this; rw [List.length_map]; omega)
      injection e with e
      subst e
      rw [Go.WideShapes.add_plain, World.cell?_alloc_lt _ _ _ hb]
      exact hc j u hu)
    go_enter Tryd.func39, Tryd.ntmps39
    go_wp2_with (at_builtin; refine wpList_append_own _ rfl _ _ 22 rfl w.heap.size 39 i0 (.int .u32 0) 1 4 Tryd.underlying22 hi hz0 hz1 hz2 rfl (by decide) _ _ _ rfl hown ad ws.length c (u32s ws) rfl hlm.out hnews.out (u32s_one ws) ?c3 ?c4 ?c5 ?_)
    case c3 => unfold maxLen; omega
    case c4 => omega
    case c5 => simp
    intro v' w3 hown' hgrow _
    have b3 : Below w.heap.size w w3 := (al1 w (.cells #[] 39)).grown hgrow (by simp) (fun k e => by simp [Value.ownBlock] at e; omega)
    replace hown' : w3.ownsRow w.heap.size 39 1 v' ws.length (u32s ws) := by simpa using hown'
    obtain ⟨A', c', rfl, hc'⟩ := own_slice hown'
    have hS := Sl.of_own hown' h.wd hc' rfl
    clear hown' hgrow hown
    go_wp2
    go_ret
    exact ⟨A', c', rfl, hS, b3⟩
end Go.Proofs.YtmhfdmidaheoeaaDoor
