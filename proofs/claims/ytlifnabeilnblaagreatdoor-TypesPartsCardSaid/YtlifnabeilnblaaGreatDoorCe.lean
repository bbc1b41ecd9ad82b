/- Walks: checkExpanded and Check of package types. -/
import Derived.Test.YtlifnabeilnblaaGreatDoorAw
import Derived.Test.YtlifnabeilnblaaGreatDoorSz
namespace Go.Proofs.YtlifnabeilnblaaGreatDoor
open Go.RowKit Go.Sort
set_option linter.unusedVariables false

namespace G
theorem any_imp2 {p q r : G → Bool} (h : ∀ e, p e = false → q e = false → r e = false) (e : G) : e.any p = false → e.any q = false → e.any r = false := by
  induction e using G.ind with
  | h e ih => exact fun hp hq => any_mk (h e (any_self hp) (any_self hq)) fun k hk => ih k hk (any_kid hp hk) (any_kid hq hk)
theorem fm_badA {e : G} (h1 : e.mal = false) (h2 : e.out = false) : e.badA = false := by
  have f := (mal_iff e).1 h1
  unfold badA
  by_cases hk : e.kd = 2
  · have h3 := f.ar hk
    unfold out inr at h2
    rw [Bool.not_eq_false', Bool.and_eq_true, Bool.and_eq_true] at h2
    have h4 := h2.1.2
    rw [hk] at h4
    simp at h4
    have h5 : e.ks.isEmpty = false := by
      cases hks : e.ks with
      | nil => rw [hks] at h3; simp at h3
      | cons a l => rfl
    rw [hk, h5, decide_eq_true (by omega), decide_eq_true (by omega)]; rfl
  · have : (e.kd == 2) = false := by simpa using hk
    rw [this]; rfl
theorem no_badA {e : G} (h1 : e.any mal = false) (h2 : e.any out = false) : e.any badA = false := any_imp2 (fun _ => fm_badA) e h1 h2
theorem dep_le {e : G} (h : e.nodes ≤ 1000000) : e.dep ≤ 1000000 := by have := dep_nodes e; omega
end G
set_option maxRecDepth 100000 in
set_option maxHeartbeats 1000000 in
theorem expanded_any (e : G) (w : World) (hin : G.In w w.heap.size e) (hbad : e.any G.badA = false) (hn : e.nodes ≤ 1000000) :
    Calls Tryz.prog 32 #[e.val] w fun r w' => r = .returned (.int .i64 e.exC) ∧ Below w.heap.size w w' := by
  have X := Eb.start w e 26
  have C1 := Lib.hid (fun W (i : Eb w W e) => anywhere_twins hp_twins e W trivial (hin.at i.bel))
  have C2 := Lib.hid (fun W (i : Eb w W e) => depth_any e W (hin.at i.bel) (G.dep_le hn))
  have C3 := Lib.hid (fun W (i : Eb w W e) => size_any e W (hin.at i.bel) hbad hn)
  have hd0 := G.dep_le hn
  have hc0 := G.cnt_bd e hbad
  have HE : Hid (e.exC = if e.any G.twins then 8 else if 12 < e.dep ∨ 32 < e.cnt then 4 else 0) := Lib.hid rfl
  obtain ⟨d, hd⟩ : ∃ d, Hid (e.dep = d) := ⟨_, Lib.hid rfl⟩
  obtain ⟨c, hc⟩ : ∃ c, Hid (e.cnt = c) := ⟨_, Lib.hid rfl⟩
  rw [hd.out] at C2 hd0
  rw [hc.out] at C3 hc0
  rw [hd.out, hc.out] at HE
  obtain ⟨z, hz⟩ : ∃ z, Hid (e.exC = z) := ⟨_, Lib.hid rfl⟩
  rw [hz.out] at HE ⊢
  clear hbad
  go_enter Tryz.func32, Tryz.ntmps32
  go_wp2_with fail
  refine (C1.out _ X).mono ?_
  rintro r w1 ⟨rfl, b1⟩
  replace X := X.below b1
  have k0 := X.be.c 0 (show e.box[0]? = some (.int .i64 e.kd) from rfl)
  have k1 := X.be.c 1 (show e.box[1]? = some (.int .i64 e.lo) from rfl)
  have k2 := X.be.c 2 (show e.box[2]? = some (.int .i64 e.hi) from rfl)
  have k3 := X.be.c 3 (show e.box[3]? = some (.int .i64 e.sz) from rfl)
  have k4 := X.be.c 4 (show e.box[4]? = some (.string e.nm) from rfl)
  have k5 := X.be.c 5 (show e.box[5]? = some (.slice e.na e.ns.length e.nc) from rfl)
  have k6 := X.be.c 6 (show e.box[6]? = some (.slice e.ad e.ks.length e.cap) from rfl)
  clear b1
  cases ht : e.any G.twins with
  | true =>
    have HR : Hid (8 = z) := Lib.hid (by rw [HE.out, ht]; rfl)
    have b2 := X.bel
    clear HE ht hd hc
    go_wp2_with fail
    go_ret
    exact ⟨ret_int HR.out, b2⟩
  | false =>
    have HE2 : Hid (z = if 12 < d ∨ 32 < c then 4 else 0) := Lib.hid (by rw [HE.out, ht]; rfl)
    clear HE ht hd hc
    go_wp2_with fail
    refine (C2.out _ X).mono ?_
    rintro r w2 ⟨rfl, b1⟩
    replace X := X.below b1
    clear k0 k1 k2 k3 k4 k5 k6 b1
    have k0 := X.be.c 0 (show e.box[0]? = some (.int .i64 e.kd) from rfl)
    have k1 := X.be.c 1 (show e.box[1]? = some (.int .i64 e.lo) from rfl)
    have k2 := X.be.c 2 (show e.box[2]? = some (.int .i64 e.hi) from rfl)
    have k3 := X.be.c 3 (show e.box[3]? = some (.int .i64 e.sz) from rfl)
    have k4 := X.be.c 4 (show e.box[4]? = some (.string e.nm) from rfl)
    have k5 := X.be.c 5 (show e.box[5]? = some (.slice e.na e.ns.length e.nc) from rfl)
    have k6 := X.be.c 6 (show e.box[6]? = some (.slice e.ad e.ks.length e.cap) from rfl)
    by_cases h12 : 12 < d
    · have hI : (12 : Int) < (d : Int) := by omega
      have HR : Hid (4 = z) := Lib.hid (by rw [HE2.out, if_pos (.inl h12)])
      have b2 := X.bel
      clear HE2
      go_wp2_with fail
      go_ret
      exact ⟨ret_int HR.out, b2⟩
    · have hI : ¬ (12 : Int) < (d : Int) := by omega
      by_cases h32 : 32 < c
      · have HR : Hid (4 = z) := Lib.hid (by rw [HE2.out, if_pos (.inr h32)])
        clear HE2
        go_wp2_with fail
        refine (C3.out _ X).mono ?_
        rintro r w3 ⟨rfl, b1⟩
        have b2 := bTrans X.bel b1
        go_wp2_with fail
        go_ret
        exact ⟨ret_int HR.out, b2⟩
      · have HR : Hid (0 = z) := Lib.hid (by rw [HE2.out, if_neg (by omega)])
        clear HE2
        go_wp2_with fail
        refine (C3.out _ X).mono ?_
        rintro r w3 ⟨rfl, b1⟩
        have b2 := bTrans X.bel b1
        go_wp2_with fail
        go_ret
        exact ⟨ret_int HR.out, b2⟩
set_option maxRecDepth 100000 in
set_option maxHeartbeats 1000000 in
theorem tcheck_any (e : G) (w : World) (hin : G.In w w.heap.size e) (hT : Tb w.heap.size w) :
    Calls Tryz.prog 11 #[e.val] w fun r w' => r = .returned (.int .i64 (G.chkT nmB e)) ∧ Below w.heap.size w w' := by
  have X := Eb.start w e 26
  have C1 := Lib.hid (fun W (i : Eb w W e) => checkType_any e W (hin.at i.bel) (hT.at i.bel))
  have C2 := Lib.hid (fun W (i : Eb w W e) => anywhere_isname hp_isname e W trivial (hin.at i.bel))
  have C3 := Lib.hid (fun (ok : G.Ok nmB e) W (i : Eb w W e) => expanded_any e W (hin.at i.bel) (G.no_badA ok.mal ok.out) (by have := ok.nodes; omega))
  have HE : Hid (G.chkT nmB e = if G.chk nmB e ≠ 0 then G.chk nmB e else if e.any G.isName then 7 else e.exC) := Lib.hid rfl
  have HK : Hid (G.chk nmB e = 0 → G.Ok nmB e) := Lib.hid G.chk_ok.1
  obtain ⟨c, hc⟩ : ∃ c, Hid (G.chk nmB e = c) := ⟨_, Lib.hid rfl⟩
  rw [hc.out] at C1 HE HK
  obtain ⟨z, hz⟩ : ∃ z, Hid (G.chkT nmB e = z) := ⟨_, Lib.hid rfl⟩
  rw [hz.out] at HE ⊢
  clear hc hz hT
  go_enter Tryz.func11, Tryz.ntmps11
  go_wp2_with fail
  refine (C1.out _ X).mono ?_
  rintro r w1 ⟨rfl, b1⟩
  replace X := X.below b1
  have k0 := X.be.c 0 (show e.box[0]? = some (.int .i64 e.kd) from rfl)
  have k1 := X.be.c 1 (show e.box[1]? = some (.int .i64 e.lo) from rfl)
  have k2 := X.be.c 2 (show e.box[2]? = some (.int .i64 e.hi) from rfl)
  have k3 := X.be.c 3 (show e.box[3]? = some (.int .i64 e.sz) from rfl)
  have k4 := X.be.c 4 (show e.box[4]? = some (.string e.nm) from rfl)
  have k5 := X.be.c 5 (show e.box[5]? = some (.slice e.na e.ns.length e.nc) from rfl)
  have k6 := X.be.c 6 (show e.box[6]? = some (.slice e.ad e.ks.length e.cap) from rfl)
  clear b1
  by_cases h0 : c = 0
  · have q0 : (c != 0) = false := by rw [h0]; rfl
    have HE2 : Hid (z = if e.any G.isName then 7 else e.exC) := Lib.hid (by rw [HE.out, if_neg (by rw [h0]; simp)])
    have ok := Lib.hid (HK.out h0)
    clear HE HK h0
    go_wp2_with fail
    refine (C2.out _ X).mono ?_
    rintro r w2 ⟨rfl, b1⟩
    replace X := X.below b1
    clear k0 k1 k2 k3 k4 k5 k6 b1
    have k0 := X.be.c 0 (show e.box[0]? = some (.int .i64 e.kd) from rfl)
    have k1 := X.be.c 1 (show e.box[1]? = some (.int .i64 e.lo) from rfl)
    have k2 := X.be.c 2 (show e.box[2]? = some (.int .i64 e.hi) from rfl)
    have k3 := X.be.c 3 (show e.box[3]? = some (.int .i64 e.sz) from rfl)
    have k4 := X.be.c 4 (show e.box[4]? = some (.string e.nm) from rfl)
    have k5 := X.be.c 5 (show e.box[5]? = some (.slice e.na e.ns.length e.nc) from rfl)
    have k6 := X.be.c 6 (show e.box[6]? = some (.slice e.ad e.ks.length e.cap) from rfl)
    cases hn : e.any G.isName with
    | true =>
      have HR : Hid (7 = z) := Lib.hid (by rw [HE2.out, hn]; rfl)
      have b2 := X.bel
      clear HE2 hn
      go_wp2_with fail
      go_ret
      exact ⟨ret_int HR.out, b2⟩
    | false =>
      have HR : Hid (e.exC = z) := Lib.hid (by rw [HE2.out, hn]; rfl)
      clear HE2 hn
      go_wp2_with fail
      refine (C3.out ok.out _ X).mono ?_
      rintro r w3 ⟨rfl, b1⟩
      have b2 := bTrans X.bel b1
      go_wp2_with fail
      go_ret
      exact ⟨ret_int HR.out, b2⟩
  · have q0 : (c != 0) = true := by simpa using h0
    have HR : Hid (c = z) := Lib.hid (by rw [HE.out, if_pos h0])
    have b2 := X.bel
    clear HE HK h0
    go_wp2_with fail
    go_ret
    exact ⟨ret_int HR.out, b2⟩
end Go.Proofs.YtlifnabeilnblaaGreatDoor
