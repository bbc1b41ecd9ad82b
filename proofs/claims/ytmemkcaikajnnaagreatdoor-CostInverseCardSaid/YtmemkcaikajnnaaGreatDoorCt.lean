/- Walks: the counter of package syntax, on expressions. -/
import Derived.Test.YtmemkcaikajnnaaGreatDoorMem
import Derived.Test.YtmemkcaikajnnaaGreatDoorCk
namespace Go.Proofs.YtmemkcaikajnnaaGreatDoor
open Go.RowKit
set_option linter.unusedVariables false

theorem setB {B : Nat} {w w1 : World} (h : Below B w w1) {b k : Nat} (hb : B ≤ b) (u : Value) : Below B w (w1.setCell ⟨b, k, none⟩ u) := h.setCell hb u

/-- does a node stand within the limits? -/
def nodeB (n d : Nat) : Bool := decide (n + 1 ≤ 1024) && decide (d ≤ 12)
set_option maxHeartbeats 400000 in
theorem node_any (b n d : Nat) (w : World) (h : One w b (.int .i64 (n : Int))) (hn : n ≤ 1000000) (hd : d ≤ 1000000) :
    Calls Tryz.prog 95 #[.pointer (some ⟨b, 0, none⟩), .int .i64 (d : Int)] w fun e w' => e = .returned (.bool (nodeB n d)) ∧ w.grownBy w' (some b) ∧ One w' b (.int .i64 ((n + 1 : Nat) : Int)) := by
  have c0 := h.c
  have f0 := h.fr 0
  have o1 : One (w.setCell ⟨b, 0, none⟩ (.int .i64 ((n : Int) + 1))) b (.int .i64 ((n + 1 : Nat) : Int)) := by have := h.put (.int .i64 ((n : Int) + 1)); simpa using this
  have c1 := (h.put (.int .i64 ((n : Int) + 1))).c
  by_cases h1 : n + 1 ≤ 1024
  · have h1I : (n : Int) + 1 ≤ 1024 := by omega
    have hr : Hid (Ending.returned (.bool (decide ((d : Int) ≤ 12))) = Ending.returned (.bool (nodeB n d))) := Lib.hid (ret_bool (by unfold nodeB; rw [decide_eq_true h1, Bool.true_and, decide_eq_decide]; omega))
    clear h1
    go_enter Tryz.func95, Tryz.ntmps95
    go_wp2_with fail
    go_ret
    exact ⟨hr.out, grown_set _ _ _ _, o1⟩
  · have h1I : ¬ (n : Int) + 1 ≤ 1024 := by omega
    have hr : Hid (Ending.returned (.bool false) = Ending.returned (.bool (nodeB n d))) := Lib.hid (ret_bool (by unfold nodeB; rw [decide_eq_false h1, Bool.false_and]))
    clear h1
    go_enter Tryz.func95, Tryz.ntmps95
    go_wp2_with fail
    go_ret
    exact ⟨hr.out, grown_set _ _ _ _, o1⟩

/-- what the counter leaves -/
def CtP (B b n : Nat) (ok : Bool) (w : World) (e : Ending) (w' : World) : Prop :=
  e = .returned (.bool ok) ∧ Below B w w' ∧ ∃ m : Nat, m ≤ 1000000 ∧ One w' b (.int .i64 (m : Int)) ∧ (ok = true → m = n)

namespace E
/-- within the limits, counted from n nodes on, at the depth d -/
def cok (n d : Nat) (e : E) : Bool := decide (n + e.nodes ≤ 1024) && decide (d + e.dep ≤ 13)
def cokL (n d : Nat) (l : List E) : Bool := decide (n + nodesL l ≤ 1024) && decide (d + depL l ≤ 13)
theorem cok_step (n d : Nat) (e : E) : cok n d e = (nodeB n d && cokL (n + 1) (d + 1) e.ks) := by
  unfold cok cokL nodeB
  rw [nodes_eq, dep_eq, Bool.eq_iff_iff]
  simp only [Bool.and_eq_true, decide_eq_true_eq]
  omega
theorem cokL_bad {n d i : Nat} {l : List E} {e : E} (h : Is l i e) (hb : cok (n + nodesL (l.take i)) d e = false) : cokL n d l = false := by
  have h1 := nodesL_snoc (l.take i) e
  have h2 := depL_snoc (l.take i) e
  rw [← h.take] at h1 h2
  have h3 : nodesL (l.take (i + 1)) ≤ nodesL l := by
    have := List.take_append_drop (i + 1) l
    conv => rhs; rw [← this]
    generalize l.drop (i + 1) = r
    generalize l.take (i + 1) = a
    induction a with
    | nil => simp [nodesL]
    | cons x a ih => simp only [List.cons_append, nodesL]; omega
  have h4 : depL (l.take (i + 1)) ≤ depL l := by
    have := List.take_append_drop (i + 1) l
    conv => rhs; rw [← this]
    generalize l.drop (i + 1) = r
    generalize l.take (i + 1) = a
    induction a with
    | nil => simp [depL]
    | cons x a ih => simp only [List.cons_append, depL]; omega
  apply Classical.byContradiction
  intro hn
  have hn' : cokL n d l = true := by simpa using hn
  unfold cokL at hn'
  simp only [Bool.and_eq_true, decide_eq_true_eq] at hn'
  have : cok (n + nodesL (l.take i)) d e = true := by
    unfold cok
    simp only [Bool.and_eq_true, decide_eq_true_eq]
    omega
  rw [this] at hb
  exact absurd hb (by decide)
end E

/-- the contract of the counter at one expression -/
def CtE (e : E) : Prop := ∀ (B b n d : Nat) (w : World), B ≤ b → E.In w B e → One w b (.int .i64 (n : Int)) → n ≤ 1024 → d ≤ 13 →
    Calls Tryz.prog 73 #[.pointer (some ⟨b, 0, none⟩), e.val, .int .i64 (d : Int)] w (CtP B b (n + e.nodes) (E.cok n d e) w)

set_option maxRecDepth 100000 in
set_option maxHeartbeats 1000000 in
theorem exprs_of (l : List E) (ih : ∀ e ∈ l, CtE e) (A : Option Addr) (c B b n d : Nat) (w : World) (hB : B ≤ b) (hl : E.L w B A l) (hb : One w b (.int .i64 (n : Int))) (hn : n ≤ 1024) (hd : d ≤ 13) :
    Calls Tryz.prog 96 #[.pointer (some ⟨b, 0, none⟩), .slice A l.length c, .int .i64 (d : Int)] w (CtP B b (n + E.nodesL l) (E.cokL n d l) w) := by
  have IH := Lib.hid ih
  have hlen := hl.len
  clear ih
  go_enter Tryz.func96, Tryz.ntmps96
  go_wp2_with fail
  go_loopw [11] (fun iv wr => ∃ (i m : Nat), i ≤ l.length ∧ iv = .int .i64 i ∧ Hid (m = n + E.nodesL (l.take i) ∧ d + E.depL (l.take i) ≤ 13) ∧ m ≤ 1024 ∧ One wr b (.int .i64 (m : Int)) ∧ Below B w wr) (fun iv _ => l.length - (intOf iv).toNat)
  case atStart => exact ⟨0, n, Nat.zero_le _, rfl, Lib.hid ⟨rfl, by show d + 0 ≤ 13; omega⟩, hn, hb, Below.refl _ _⟩
  case round =>
    obtain ⟨i, m, hi, rfl, hm, hm2, ho, hbel⟩ := hrel
    by_cases hlt : i < l.length
    · obtain ⟨ab, off, e, rfl, hab, c0, c1, c2, c3, his, hin⟩ := (hl.below hbel).at_ hlt
      have HI := Lib.hid (show CtE e from IH.out e his.mem)
      have hsz := ho.lt
      cases hok : E.cok m d e with
      | false =>
        have HR : Hid (E.cokL n d l = false) := Lib.hid (E.cokL_bad his (by rw [← hm.out.1]; exact hok))
        have HK := Lib.hid hok
        clear hok
        go_wp2_with fail
        refine (HI.out B b m d _ hB (hin.below ?_) (ho.alloc _) hm2 hd).mono ?_
        · exact (Below.refl _ _).alloc (by omega) _
        rintro e1 w1 ⟨rfl, b1, m1, hm1, o1, _⟩
        rw [HK.out]
        go_wp2_with fail
        go_ret
        exact ⟨ret_bool HR.out.symm, bAll (hbel.alloc (by omega) _) b1, m1, hm1, o1, fun h => absurd (HR.out.symm.trans h) (by decide)⟩
      | true =>
        have HK := Lib.hid hok
        clear hok
        go_wp2_with fail
        refine (HI.out B b m d _ hB (hin.below ?_) (ho.alloc _) hm2 hd).mono ?_
        · exact (Below.refl _ _).alloc (by omega) _
        rintro e1 w1 ⟨rfl, b1, m1, hm1, o1, hq⟩
        obtain rfl := hq HK.out
        have hk2 := HK.out
        unfold E.cok at hk2
        simp only [Bool.and_eq_true, decide_eq_true_eq] at hk2
        have HM : Hid (m + e.nodes = n + E.nodesL (l.take (i + 1)) ∧ d + E.depL (l.take (i + 1)) ≤ 13) := Lib.hid (by
          rw [his.take, E.nodesL_snoc, E.depL_snoc]
          have := hm.out
          omega)
        have hm3 := hk2.1
        rw [HK.out]
        clear hk2
        have hb2 := bAll (hbel.alloc (by omega) _) b1
        go_wp2_with fail
        go_roundw
        case rel => exact ⟨i + 1, m + e.nodes, by omega, by go_num, HM, hm3, o1, hb2⟩
        case measure => simp [intOf]; omega
    · obtain rfl : i = l.length := by omega
      have HR : Hid (E.cokL n d l = true ∧ m = n + E.nodesL l) := Lib.hid (by
        have := hm.out
        rw [List.take_length] at this
        refine ⟨?_, this.1⟩
        unfold E.cokL
        simp only [Bool.and_eq_true, decide_eq_true_eq]
        omega)
      go_wp2_with fail
      go_ret
      exact ⟨ret_bool HR.out.1.symm, hbel, m, by omega, ho, fun _ => HR.out.2⟩

set_option maxRecDepth 100000 in
set_option maxHeartbeats 1000000 in
theorem expr_any (e : E) : CtE e := by
  induction e using E.ind with
  | h e ih =>
  intro B b n d w hB hin hb hn hd
  have IH := Lib.hid ih
  have HS := Lib.hid (E.cok_step n d e)
  have HN := Lib.hid (E.nodes_eq e)
  have hsz := hb.lt
  clear ih
  cases h1 : nodeB n d with
  | false =>
    have H1 := Lib.hid h1
    clear h1
    go_enter Tryz.func73, Tryz.ntmps73
    go_wp2_with fail
    refine (node_any b n d _ (hb.alloc _) (by omega) (by omega)).mono ?_
    rintro e1 w1 ⟨rfl, b1, o1⟩
    have b2 := bAll ((Below.refl B w).alloc (by omega) _) (bGrown b1 hB (by simp; omega))
    rw [H1.out]
    go_wp2_with fail
    go_ret
    exact ⟨ret_bool (by rw [HS.out, H1.out]; rfl), b2, n + 1, by omega, o1, fun h => by rw [HS.out, H1.out] at h; exact Bool.noConfusion h⟩
  | true =>
    have H1 := Lib.hid h1
    unfold nodeB at h1
    simp only [Bool.and_eq_true, decide_eq_true_eq] at h1
    have hn1 := h1.1
    have hd1 := h1.2
    clear h1
    go_enter Tryz.func73, Tryz.ntmps73
    go_wp2_with fail
    refine (node_any b n d _ (hb.alloc _) (by omega) (by omega)).mono ?_
    rintro e1 w1 ⟨rfl, b0, o1⟩
    have b1 := bAll ((Below.refl B w).alloc (by omega) _) (bGrown b0 hB (by simp; omega))
    have c3 : w1.cell? ⟨w.heap.size, 3, none⟩ = some (.slice e.ad e.ks.length e.cap) := grown_cell b0 (by simp) (by omega)
    clear b0
    rw [H1.out]
    have L1 := hin.l.below b1
    go_wp2_with fail
    refine (exprs_of e.ks IH.out e.ad e.cap B b (n + 1) (d + 1) _ hB L1 o1 (by omega) (by omega)).mono ?_
    rintro e1 w1 ⟨rfl, b2, m, hm, o2, hq⟩
    go_wp2_with fail
    go_ret
    exact ⟨ret_bool (by rw [HS.out, H1.out]; rfl), bAll b1 b2, m, hm, o2, fun h => by rw [HS.out, H1.out] at h; rw [HN.out, hq h]; omega⟩
end Go.Proofs.YtmemkcaikajnnaaGreatDoor
