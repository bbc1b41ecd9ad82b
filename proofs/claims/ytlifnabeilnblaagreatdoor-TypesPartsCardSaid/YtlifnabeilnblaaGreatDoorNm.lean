/- Walks: slices.ContainsFunc over the names of a type. -/
import Derived.Test.YtlifnabeilnblaaGreatDoorFe
namespace Go.Proofs.YtlifnabeilnblaaGreatDoor
open Go.RowKit Go.Sort
set_option linter.unusedVariables false

/-- the names of the language -/
abbrev nmB (s : ByteArray) : Bool := Kx.nameB (bs s)
theorem SpT.below' {w w' : World} (h : SpT w) {B : Nat} (hb : Below B w w') (hB : 6 < B) : SpT w' :=
  ⟨fun c hc => (hb.cell (p := ⟨_, _, none⟩) hB).trans (h.cell c hc), Nat.lt_of_lt_of_le h.lt hb.size⟩
theorem notname_any (s : ByteArray) (hs : s.size ≤ 9223372036854775807) (w : World) (hT : SpT w) : Calls Tryz.prog 112 #[.string s] w fun e w' => e = .returned (.bool (!nmB s)) ∧ Below w.heap.size w w' := by
  go_enter Tryz.func112, Tryz.ntmps112
  go_wp2_with fail
  refine (sisname_any s hs _ hT).mono ?_
  rintro e w1 ⟨rfl, b⟩
  go_wp2_with fail
  go_ret
  exact ⟨rfl, b⟩
theorem all_take {α : Type} {p : α → Bool} {l : List α} (h : ∀ k, k < l.length → ∀ hk : k < l.length, p l[k] = true) : l.all p = true := by
  rw [List.all_eq_true]
  intro x hx
  obtain ⟨j, hj, rfl⟩ := List.mem_iff_getElem.1 hx
  exact h j hj hj
theorem all_hit {α : Type} {p : α → Bool} {l : List α} {k : Nat} (hk : k < l.length) (h : p l[k] = false) : l.all p = false := by
  rw [Bool.eq_false_iff]
  intro hh
  have := List.all_eq_true.1 hh _ (List.getElem_mem hk)
  rw [h] at this; exact Bool.noConfusion this
set_option maxRecDepth 100000 in
set_option maxHeartbeats 1000000 in
theorem nindex_any (e : G) (w : World) (hn : G.Nd w w.heap.size e) (hT : SpT w) :
    Calls Tryz.prog 126 #[.slice e.na e.ns.length e.nc, .func (.func 112) #[] #[]] w fun r w' => ∃ z : Int, r = .returned (.int .i64 z) ∧ decide (0 ≤ z) = !e.ns.all nmB ∧ Below w.heap.size w w' := by
  have hlen := hn.nlen
  have HS := Lib.hid hn.names
  have X : Below w.heap.size w w := Below.refl _ _
  obtain ⟨A, hA⟩ : ∃ A, Hid (e.na = A) := ⟨_, Lib.hid rfl⟩
  rw [hA.out]
  go_enter Tryz.func126, Tryz.ntmps126
  go_wp2_with fail
  go_loopw [8] (fun iv wr => ∃ i : Nat, i ≤ e.ns.length ∧ iv = .int .i64 i ∧ Hid (∀ k, k < i → ∀ hk : k < e.ns.length, nmB e.ns[k] = true) ∧ Below w.heap.size w wr) (fun iv _ => e.ns.length - (intOf iv).toNat)
  case atStart => exact ⟨0, Nat.zero_le _, rfl, Lib.hid (fun k hk => absurd hk (Nat.not_lt_zero _)), X⟩
  case round =>
    clear X
    obtain ⟨i, hi, rfl, hg, Y⟩ := hrel
    by_cases hlt : i < e.ns.length
    · obtain ⟨ab, off, hA2, hab, hc⟩ := (hn.below Y).name_at hlt
      obtain rfl : A = some ⟨ab, off, none⟩ := hA.out.symm.trans hA2
      clear hA2
      have hs := HS.out _ (List.getElem_mem hlt)
      have hT2 := hT.below' Y hT.lt
      have HG := Lib.hid (fun (h : nmB e.ns[i] = true) k (hk : k < i + 1) (hk2 : k < e.ns.length) => show nmB e.ns[k] = true by
        by_cases hki : k = i
        · subst hki; exact h
        · exact hg.out k (by omega) hk2)
      have HB := Lib.hid (fun (h : nmB e.ns[i] = false) => all_hit hlt h)
      revert hs HG HB hc
      generalize e.ns[i] = s
      intro hc hs HG HB
      have HC := Lib.hid (notname_any s hs wr hT2)
      clear hs hT2
      cases hq : nmB s with
      | false =>
        have HN : Hid ((!nmB s) = true) := Lib.hid (by rw [hq]; rfl)
        have HR := Lib.hid (HB.out hq)
        clear hq HB HG
        go_wp2_with fail
        refine HC.out.mono ?_
        rintro r w2 ⟨rfl, b2⟩
        rw [HN.out]
        go_wp2_with fail
        go_ret
        exact ⟨_, rfl, by rw [HR.out, decide_eq_true (by omega)]; rfl, bTrans Y b2⟩
      | true =>
        have HN : Hid ((!nmB s) = false) := Lib.hid (by rw [hq]; rfl)
        have HG2 := Lib.hid (HG.out hq)
        clear hq HB HG
        go_wp2_with fail
        refine HC.out.mono ?_
        rintro r w2 ⟨rfl, b2⟩
        rw [HN.out]
        have Y2 := bTrans Y b2
        go_wp2_with fail
        go_roundw
        case rel => exact ⟨i + 1, by omega, by go_num, HG2, Y2⟩
        case measure => simp [intOf]; omega
    · obtain rfl : i = e.ns.length := by omega
      have HR := Lib.hid (all_take (p := nmB) hg.out)
      go_wp2_with fail
      go_ret
      exact ⟨_, rfl, by rw [HR.out]; decide, Y⟩
set_option maxRecDepth 100000 in
theorem ncontains_any (e : G) (w : World) (hn : G.Nd w w.heap.size e) (hT : SpT w) :
    Calls Tryz.prog 111 #[.slice e.na e.ns.length e.nc, .func (.func 112) #[] #[]] w fun r w' => r = .returned (.bool (!e.ns.all nmB)) ∧ Below w.heap.size w w' := by
  go_enter Tryz.func111, Tryz.ntmps111
  go_wp2_with fail
  refine (nindex_any e w hn hT).mono ?_
  rintro r w1 ⟨z, rfl, hz, b⟩
  have HZ := Lib.hid hz
  clear hz
  go_wp2_with fail
  go_ret
  exact ⟨ret_bool HZ.out, b⟩
end Go.Proofs.YtlifnabeilnblaaGreatDoor
