/- Walks: the counter of package syntax, on types. -/
import Derived.Test.YtlifnabeilnblaaGreatDoorDe
import Derived.Test.YtlifnabeilnblaaGreatDoorTk
namespace Go.Proofs.YtlifnabeilnblaaGreatDoor
open Go.RowKit Go.Sort
set_option linter.unusedVariables false

/-- does a node stand within the limits? -/
def nodeB (n d : Nat) : Bool := decide (n + 1 ≤ 1024) && decide (d ≤ 12)
set_option maxHeartbeats 400000 in
theorem node_any (b n d : Nat) (w : World) (h : One w b (.int .i64 (n : Int))) (hn : n ≤ 1000000) (hd : d ≤ 1000000) :
    Calls Tryz.prog 71 #[.pointer (some ⟨b, 0, none⟩), .int .i64 (d : Int)] w fun e w' => e = .returned (.bool (nodeB n d)) ∧ w.grownBy w' (some b) ∧ One w' b (.int .i64 ((n + 1 : Nat) : Int)) := by
  have c0 := h.c
  have f0 := h.fr 0
  have o1 : One (w.setCell ⟨b, 0, none⟩ (.int .i64 ((n : Int) + 1))) b (.int .i64 ((n + 1 : Nat) : Int)) := by have := h.put (.int .i64 ((n : Int) + 1)); simpa using this
  have c1 := (h.put (.int .i64 ((n : Int) + 1))).c
  by_cases h1 : n + 1 ≤ 1024
  · have h1I : (n : Int) + 1 ≤ 1024 := by omega
    have hr : Hid (Ending.returned (.bool (decide ((d : Int) ≤ 12))) = Ending.returned (.bool (nodeB n d))) := Lib.hid (ret_bool (by unfold nodeB; rw [decide_eq_true h1, Bool.true_and, decide_eq_decide]; omega))
    clear h1
    go_enter Tryz.func71, Tryz.ntmps71
    go_wp2_with fail
    go_ret
    exact ⟨hr.out, grown_set _ _ _ _, o1⟩
  · have h1I : ¬ (n : Int) + 1 ≤ 1024 := by omega
    have hr : Hid (Ending.returned (.bool false) = Ending.returned (.bool (nodeB n d))) := Lib.hid (ret_bool (by unfold nodeB; rw [decide_eq_false h1, Bool.false_and]))
    clear h1
    go_enter Tryz.func71, Tryz.ntmps71
    go_wp2_with fail
    go_ret
    exact ⟨hr.out, grown_set _ _ _ _, o1⟩

/-- what the counter leaves -/
def CtP (B b n : Nat) (ok : Bool) (w : World) (e : Ending) (w' : World) : Prop :=
  e = .returned (.bool ok) ∧ Below B w w' ∧ ∃ m : Nat, m ≤ 1000000 ∧ One w' b (.int .i64 (m : Int)) ∧ (ok = true → m = n)

namespace G
/-- within the limits, counted from n nodes on, at the depth d -/
def cok (n d : Nat) (e : G) : Bool := decide (n + e.nodes ≤ 1024) && decide (d + e.dep ≤ 13)
def cokL (n d : Nat) (l : List G) : Bool := decide (n + nodesL l ≤ 1024) && decide (d + depL l ≤ 13)
theorem cok_step (n d : Nat) (e : G) : cok n d e = (nodeB n d && cokL (n + 1) (d + 1) e.ks) := by
  unfold cok cokL nodeB
  rw [nodes_eq, dep_eq, Bool.eq_iff_iff]
  simp only [Bool.and_eq_true, decide_eq_true_eq]
  omega
theorem cokL_bad {n d i : Nat} {l : List G} {e : G} (h : Is l i e) (hb : cok (n + nodesL (l.take i)) d e = false) : cokL n d l = false := by
  have h1 := nodesL_snoc (l.take i) e
  have h2 := depL_snoc (l.take i) e
  rw [← h.take] at h1 h2
  have h3 := nodesL_take l (i + 1)
  have h4 := depL_take l (i + 1)
  apply Classical.byContradiction
  intro hn
  have hn' : cokL n d l = true := by simpa using hn
  unfold cokL at hn'
  simp only [Bool.and_eq_true, decide_eq_true_eq] at hn'
  have : cok (n + nodesL (l.take i)) d e = true := by
    unfold cok
    simp only [Bool.and_eq_true, decide_eq_true_eq]
    omega
  rw [this] at hb
  exact absurd hb (by decide)
end G

/-- the contract of the counter at one type -/
def CtE (e : G) : Prop := ∀ (B b n d : Nat) (w : World), B ≤ b → G.In w B e → One w b (.int .i64 (n : Int)) → n ≤ 1024 → d ≤ 13 →
    Calls Tryz.prog 49 #[.pointer (some ⟨b, 0, none⟩), e.val, .int .i64 (d : Int)] w (CtP B b (n + e.nodes) (G.cok n d e) w)

set_option maxRecDepth 100000 in
set_option maxHeartbeats 1000000 in
theorem kind_any (e : G) : CtE e := by
  induction e using G.ind with
  | h e ih =>
  intro B b n d w hB hin hb hn hd
  have IH := Lib.hid ih
  have HS := Lib.hid (G.cok_step n d e)
  have HN := Lib.hid (G.nodes_eq e)
  have hsz := hb.lt
  have hl := hin.l
  have hlen := hin.nd.len
  clear ih
  cases h1 : nodeB n d with
  | false =>
    have H1 := Lib.hid h1
    clear h1
    go_enter Tryz.func49, Tryz.ntmps49
    go_wp2_with fail
    refine (node_any b n d _ (hb.alloc _) (by omega) (by omega)).mono ?_
    rintro e1 w1 ⟨rfl, b1, o1⟩
    have b2 := bAll ((Below.refl B w).alloc (by omega) _) (bGrown b1 hB (by simp; omega))
    rw [H1.out]
    go_wp2_with fail
    go_ret
    exact ⟨ret_bool (by rw [HS.out, H1.out]; rfl), b2, n + 1, by omega, o1, fun h => by rw [HS.out, H1.out] at h; exact Bool.noConfusion h⟩
  | true =>
    have H1 := Lib.hid h1
    unfold nodeB at h1
    simp only [Bool.and_eq_true, decide_eq_true_eq] at h1
    have hn1 := h1.1
    have hd1 := h1.2
    clear h1
    have HS2 : Hid (G.cok n d e = G.cokL (n + 1) (d + 1) e.ks) := Lib.hid (by rw [HS.out, H1.out]; rfl)
    clear HS
    obtain ⟨A, hA⟩ : ∃ A, Hid (e.ad = A) := ⟨_, Lib.hid rfl⟩
    rw [hA.out] at hl
    go_enter Tryz.func49, Tryz.ntmps49
    go_wp2_with fail
    refine (node_any b n d _ (hb.alloc _) (by omega) (by omega)).mono ?_
    rintro e1 w1 ⟨rfl, b0, o1⟩
    have b1 := bAll ((Below.refl B w).alloc (by omega) _) (bGrown b0 hB (by simp; omega))
    have c6 : w1.cell? ⟨w.heap.size, 6, none⟩ = some (.slice e.ad e.ks.length e.cap) := grown_cell b0 (by simp) (by omega)
    rw [hA.out] at c6
    clear b0
    rw [H1.out]
    go_wp2_with fail
    clear c6
    go_loopw [16] (fun iv wr => ∃ (i m : Nat), i ≤ e.ks.length ∧ iv = .int .i64 i ∧ Hid (m = n + 1 + G.nodesL (e.ks.take i) ∧ d + 1 + G.depL (e.ks.take i) ≤ 13) ∧ m ≤ 1024 ∧ One wr b (.int .i64 (m : Int)) ∧ Below B w wr) (fun iv _ => e.ks.length - (intOf iv).toNat)
    case atStart => exact ⟨0, n + 1, Nat.zero_le _, rfl, Lib.hid ⟨rfl, by show d + 1 + 0 ≤ 13; omega⟩, by omega, o1, b1⟩
    case round =>
      clear o1 b1
      obtain ⟨i, m, hi, rfl, hm, hm2, ho, hbel⟩ := hrel
      by_cases hlt : i < e.ks.length
      · obtain ⟨ab, off, k, rfl, hab, ⟨d0, d1, d2, d3, d4, d5, d6⟩, his, hkin⟩ := (hl.below hbel).at_ hlt
        have HI := Lib.hid (show CtE k from IH.out k his.mem)
        have hsz := ho.lt
        cases hok : G.cok m (d + 1) k with
        | false =>
          have HR : Hid (G.cok n d e = false) := Lib.hid (HS2.out.trans (G.cokL_bad his (by rw [← hm.out.1]; exact hok)))
          have HK := Lib.hid hok
          clear hok HS2
          go_wp2_with fail
          refine (HI.out B b m (d + 1) _ hB (hkin.below ?_) (ho.alloc _) hm2 (by omega)).mono ?_
          · exact (Below.refl _ _).alloc (by omega) _
          rintro e1 w1 ⟨rfl, b1, m1, hm1, o1, _⟩
          rw [HK.out]
          go_wp2_with fail
          go_ret
          exact ⟨ret_bool HR.out.symm, bAll (hbel.alloc (by omega) _) b1, m1, hm1, o1, fun h => absurd (HR.out.symm.trans h) (by decide)⟩
        | true =>
          have HK := Lib.hid hok
          clear hok
          go_wp2_with fail
          refine (HI.out B b m (d + 1) _ hB (hkin.below ?_) (ho.alloc _) hm2 (by omega)).mono ?_
          · exact (Below.refl _ _).alloc (by omega) _
          rintro e1 w1 ⟨rfl, b1, m1, hm1, o1, hq⟩
          obtain rfl := hq HK.out
          have hk2 := HK.out
          unfold G.cok at hk2
          simp only [Bool.and_eq_true, decide_eq_true_eq] at hk2
          have HM : Hid (m + k.nodes = n + 1 + G.nodesL (e.ks.take (i + 1)) ∧ d + 1 + G.depL (e.ks.take (i + 1)) ≤ 13) := Lib.hid (by
            rw [his.take, G.nodesL_snoc, G.depL_snoc]
            have := hm.out
            omega)
          have hm3 := hk2.1
          rw [HK.out]
          clear hk2
          have hb2 := bAll (hbel.alloc (by omega) _) b1
          go_wp2_with fail
          go_roundw
          case rel => exact ⟨i + 1, m + k.nodes, by omega, by go_num, HM, hm3, o1, hb2⟩
          case measure => simp [intOf]; omega
      · obtain rfl : i = e.ks.length := by omega
        have HR : Hid (G.cok n d e = true ∧ m = n + e.nodes) := Lib.hid (by
          have := hm.out
          rw [List.take_length] at this
          refine ⟨?_, by rw [HN.out]; omega⟩
          rw [HS2.out]
          unfold G.cokL
          simp only [Bool.and_eq_true, decide_eq_true_eq]
          omega)
        clear HS2
        go_wp2_with fail
        go_ret
        exact ⟨ret_bool HR.out.1.symm, hbel, m, by omega, ho, fun _ => HR.out.2⟩
end Go.Proofs.YtlifnabeilnblaaGreatDoor
