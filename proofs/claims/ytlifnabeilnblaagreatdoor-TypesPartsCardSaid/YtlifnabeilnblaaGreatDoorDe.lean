/- Walk: depth of package types. -/
import Derived.Test.YtlifnabeilnblaaGreatDoorMem
import Derived.Deep.QuietTactic
import Derived.BigQuiet
namespace Go.Proofs.YtlifnabeilnblaaGreatDoor
open Go.RowKit Go.Sort
set_option linter.unusedVariables false

/-- the box of a type, new memory behind it -/
structure Eb (w wr : World) (e : G) : Prop where
  be : Blk wr w.heap.size e.box
  bel : Below w.heap.size w wr
theorem Eb.start (w : World) (e : G) (T : TypeId) : Eb w (w.alloc (.cells e.box T)) e := ⟨Blk.new_ _ _ _, al1 _ _⟩
theorem Eb.below {w wr w' : World} {e : G} (h : Eb w wr e) (hb : Below wr.heap.size wr w') : Eb w w' e := ⟨h.be.below hb h.be.lt, bTrans h.bel hb⟩
theorem Eb.c6 {w wr : World} {e : G} (h : Eb w wr e) : wr.cell? ⟨w.heap.size, 6, none⟩ = some (.slice e.ad e.ks.length e.cap) := h.be.c 6 rfl
/-- a kid, read in a later world -/
theorem Eb.kid {w wr : World} {e k : G} (h : Eb w wr e) (hk : G.In wr w.heap.size k) : G.In wr wr.heap.size k := hk.more h.bel.size
theorem depL_take (l : List G) (i : Nat) : G.depL (l.take i) ≤ G.depL l := by
  have := List.take_append_drop i l
  conv => rhs; rw [← this]
  generalize l.drop i = r
  generalize l.take i = a
  induction a with
  | nil => simp [G.depL]
  | cons x a ih => simp only [List.cons_append, G.depL]; omega
/-- the contract of the depth -/
def DpE (e : G) : Prop := ∀ w : World, G.In w w.heap.size e → e.dep ≤ 1000000 → Calls Tryz.prog 56 #[e.val] w fun r w' => r = .returned (.int .i64 (e.dep : Nat)) ∧ Below w.heap.size w w'
set_option maxRecDepth 100000 in
set_option maxHeartbeats 1000000 in
theorem depth_any (e : G) : DpE e := by
  induction e using G.ind with
  | h e ih =>
  intro w hin hmx
  have IH := Lib.hid ih
  have hl := hin.l
  have hlen := hin.nd.len
  have HN := Lib.hid (G.dep_eq e)
  have X := Eb.start w e 26
  have c6 := X.c6
  obtain ⟨A, hA⟩ : ∃ A, Hid (e.ad = A) := ⟨_, Lib.hid rfl⟩
  rw [hA.out] at hl c6
  clear ih
  go_enter Tryz.func56, Tryz.ntmps56
  go_wp2_with fail
  clear c6
  go_loopw [3, 9] (fun nv iv wr => ∃ i m : Nat, i ≤ e.ks.length ∧ iv = .int .i64 i ∧ nv = .int .i64 (m : Int) ∧ Hid (m = G.depL (e.ks.take i)) ∧ m ≤ 1000000 ∧ Eb w wr e) (fun _ iv _ => e.ks.length - (intOf iv).toNat)
  case atStart => exact ⟨0, 0, Nat.zero_le _, rfl, rfl, Lib.hid (by simp [G.depL]), by omega, X⟩
  case round =>
    clear X
    obtain ⟨i, m, hi, rfl, rfl, hm, hm2, Y⟩ := hrel
    by_cases hlt : i < e.ks.length
    · obtain ⟨ab, off, k, rfl, hab, ⟨d0, d1, d2, d3, d4, d5, d6⟩, his, hkin⟩ := (hl.below Y.bel).at_ hlt
      have HI := Lib.hid (IH.out k his.mem)
      have hk2 := (Y.kid hkin).at (al1 wr (.cells k.box 26))
      obtain ⟨kn, hkn⟩ : ∃ kn, Hid (k.dep = kn) := ⟨_, Lib.hid rfl⟩
      have hkm := G.depL_mem his.mem
      have hkb : k.dep ≤ 1000000 := by have := HN.out; omega
      have hkb2 : kn ≤ 1000000 := by rw [← hkn.out]; exact hkb
      have HM : Hid (max m kn = G.depL (e.ks.take (i + 1))) := Lib.hid (by rw [his.take, G.depL_snoc, hm.out, hkn.out])
      have Y1 := Y.below (al1 wr (.cells k.box 26))
      clear hkin hkm
      go_wp2_with fail
      refine (HI.out _ hk2 hkb).mono ?_
      rintro r w2 ⟨rfl, b2⟩
      rw [hkn.out]
      clear hkb
      have Y2 := Y1.below b2
      have hmx2 : ∀ a b : Nat, ((max a b : Nat) : Int) = max (a : Int) (b : Int) := fun a b => by omega
      go_wp2_with fail
      go_roundw
      case rel => exact ⟨i + 1, max m kn, by omega, by go_num, by go_num, HM, by omega, Y2⟩
      case measure => simp [intOf]; omega
    · obtain rfl : i = e.ks.length := by omega
      have HR : Hid ((m : Int) + 1 = (e.dep : Nat)) := Lib.hid (by rw [HN.out, hm.out, List.take_length]; omega)
      have e1 : IntKind.i64.wrap ((m : Int) + 1) = (m : Int) + 1 := IntWalk.i64_in _ (by omega)
      have b2 := Y.bel
      go_wp2_with fail
      go_ret
      exact ⟨ret_int HR.out, b2⟩
end Go.Proofs.YtlifnabeilnblaaGreatDoor
