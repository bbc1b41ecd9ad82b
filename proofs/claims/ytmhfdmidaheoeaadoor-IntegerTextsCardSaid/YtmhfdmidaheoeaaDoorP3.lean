/- Walks: the package's Parse. -/
import Derived.Test.YtmhfdmidaheoeaaDoorP2
import Derived.Test.YtmhfdmidaheoeaaDoorW3
import Derived.Laws.IdiomStrings
namespace Go.Proofs.YtmhfdmidaheoeaaDoor
open Go.RowKit
set_option linter.unusedVariables false

theorem Kt.cut_body (t : List UInt8) : Lib.trimPrefix t [45] = Kt.body t ∧ Lib.hasPrefix t [45] = Kt.negB t := by
  cases t with
  | nil => exact ⟨rfl, rfl⟩
  | cons c r =>
    have e : Lib.hasPrefix (c :: r) [45] = Kt.negB (c :: r) := by
      show ([45] : List UInt8).isPrefixOf (c :: r) = _
      unfold Kt.negB
      rw [List.isPrefixOf_cons_cons]
      show ((45 : UInt8) == c && true) = (some c == some 45)
      rw [Bool.and_true, Bool.eq_iff_iff, beq_iff_eq, beq_iff_eq]
      exact ⟨fun h => by rw [h], fun h => by injection h with h; exact h.symm⟩
    refine ⟨?_, e⟩
    unfold Lib.trimPrefix Kt.body
    rw [e]
    cases Kt.negB (c :: r) <;> rfl
/-- what Parse hands back: a code and an integer -/
def PRes (p : Int × Int) (w : World) (e : Ending) (w' : World) : Prop :=
  ∃ A c, e = .returned (.tuple #[.agg #[.bool (decide (p.2 < 0)), .slice A (Kn.dig p.2.natAbs).length c], .int .i64 p.1]) ∧ Sl w' w'.heap.size A c (Kn.dig p.2.natAbs) ∧ Below w.heap.size w w'
theorem PRes.err {p : Int × Int} {k : Int} {w w' : World} (hp : p = (k, 0)) (hb : Below w.heap.size w w') : PRes p w (.returned (.tuple #[.agg #[.bool false, .slice none 0 0], .int .i64 k])) w' := by
  subst hp
  exact ⟨none, 0, by rw [show Kn.dig (0 : Int).natAbs = [] from Kn.dig_zero]; rfl, by rw [show Kn.dig (0 : Int).natAbs = [] from Kn.dig_zero]; exact Sl.nil _ _, hb⟩
/-- a call's world with the result's box -/
structure B1 (w wr : World) : Prop where
  t1 : Two wr w.heap.size (.bool false) (.slice none 0 0)
  bel : Below w.heap.size w wr
theorem B1.below {w wr wx : World} (h : B1 w wr) (hb : Below wr.heap.size wr wx) : B1 w wx := ⟨h.t1.below hb h.t1.lt, h.bel.trans (hb.mono h.bel.size)⟩
theorem B1.new_ (w : World) (T : TypeId) : B1 w (w.alloc (.cells #[.bool false, .slice none 0 0] T)) := ⟨Two.new_ _ _ _ _, al1 _ _⟩
/-- the bytes of a text in the block g -/
structure ByR (w : World) (g : Nat) (d : ByteArray) : Prop where
  lt : g < w.heap.size
  at_ : ∀ i (h : i < d.size), w.cell? ⟨g, i, none⟩ = some (.int .u8 ((d[i].toNat : Nat) : Int))
theorem ByR.below {w wr : World} {g B : Nat} {d : ByteArray} (h : ByR w g d) (hb : Below B w wr) (hg : g < B) (hB : B ≤ wr.heap.size) : ByR wr g d :=
  ⟨Nat.lt_of_lt_of_le hg hB, fun i hi => (hb.cell (p := ⟨g, i, none⟩) hg).trans (h.at_ i hi)⟩
theorem ByR.new_ (w : World) (d : ByteArray) (cap : Nat) (e : TypeId) (fr : Nat × Nat) : ByR (w.alloc (.cells (bytesRow d cap) e fr)).drew w.heap.size d := by
  refine ⟨by show w.heap.size < (w.alloc _).heap.size; simp, fun i hi => ?_⟩
  show (w.alloc (.cells (bytesRow d cap) e fr)).cell? ⟨w.heap.size, i, none⟩ = _
  rw [cell_of_row _ w.heap.size i _ _ _ (heap_alloc_new w _)]
  unfold bytesRow
  have hi2 : i < d.data.size := hi
  rw [Array.getElem?_append_left (by simpa using hi2)]
  simp
  exact ⟨d.data[i], Array.getElem?_eq_getElem hi2, rfl⟩
theorem Ad.again {base n : Nat} {w wr : World} {v : Value} {l : List Nat} (h : Ad base w wr v n l) : Ad base wr wr v n l := ⟨h.own, h.len, h.wd, h.hz, Below.refl _ _⟩
theorem Kt.val_take {t : List UInt8} {i : Nat} {c : UInt8} {r : List UInt8} (h : t.drop i = c :: r) : Kt.valN (t.take (i + 1)) = 10 * Kt.valN (t.take i) + (c.toNat - 48) := by
  have hi : i < t.length := by
    have := congrArg List.length h
    rw [List.length_drop, List.length_cons] at this; omega
  have e : t.take (i + 1) = t.take i ++ [c] := by
    rw [List.take_succ_eq_append_getElem hi]
    have h2 := List.drop_eq_getElem_cons hi
    rw [h] at h2
    injection h2 with h2 _
    rw [← h2]
  rw [e, Kt.val_snoc]; omega

set_option maxRecDepth 100000 in
set_option maxHeartbeats 2000000 in
theorem parse_any (s : ByteArray) (hs : s.size ≤ 1000000) (w : World) :
    Calls Tryd.prog 22 #[.string s] w (PRes (Kt.pZ (bs s)) w) := by
  obtain ⟨p, hp⟩ : ∃ p, Hid (p = Kt.pZ (bs s)) := ⟨_, Lib.hid rfl⟩
  rw [← hp.out]
  have hlen := bs_length s
  have i1 := B1.new_ w 24
  by_cases h1 : 601 < s.size
  · have h1I : (601 : Int) < (s.size : Int) := by omega
    have HP : Hid (p = (5, 0)) := Lib.hid (by rw [hp.out]; unfold Kt.pZ; rw [if_pos (by omega)])
    have d0 := i1.t1.c0
    have d1 := i1.t1.c1
    have f0 := i1.t1.fr 0
    have f1 := i1.t1.fr 1
    go_enter Tryd.func22, Tryd.ntmps22
    go_wp2_with fail
    have r0 := i1.t1.c0
    have r1 := i1.t1.c1
    refine bodyPost_ret (v := .tuple #[.agg #[.bool false, .slice none 0 0], .int .i64 5]) (by simp [results, Tryd.results22, go_sem]) rfl ?_
    exact PRes.err HP.out i1.bel
  have h1I : ¬ (601 : Int) < (s.size : Int) := by omega
  obtain ⟨N, hN⟩ : ∃ N, Hid (Kt.negB (bs s) = N) := ⟨_, Lib.hid rfl⟩
  obtain ⟨D, hD⟩ : ∃ D, Hid (Kt.body (bs s) = D) := ⟨_, Lib.hid rfl⟩
  have hDl : D.length ≤ s.size := by
    rw [← hD.out, ← hlen]
    unfold Kt.body
    split
    · rw [List.length_drop]; omega
    · exact Nat.le_refl _
  have hcut : Hid (∀ w, Calls Tryd.prog 50 #[.string s, .string ⟨#[45]⟩] w fun e w' => e = .returned (.tuple #[.string (mkB D), .bool N]) ∧ w' = w) := Lib.hid (fun w => by
    have h := Tryd.strings_CutPrefix s ⟨#[45]⟩ w
    have e1 : Lib.trimPrefix s.data.toList [45] = D := (Kt.cut_body (bs s)).1.trans hD.out
    have e2 : Lib.hasPrefix s.data.toList [45] = N := (Kt.cut_body (bs s)).2.trans hN.out
    rw [show (⟨#[45]⟩ : ByteArray).data.toList = [45] from rfl, e1, e2] at h
    exact h)
  obtain ⟨V, hV⟩ : ∃ V, Hid (Kt.isNum D = V) := ⟨_, Lib.hid rfl⟩
  have hnum : Hid (∀ w, Calls Tryd.prog 51 #[.string (mkB D)] w fun e w' => e = .returned (.bool V) ∧ Below w.heap.size w w') := Lib.hid (fun w => by
    have h := isNumber_any (mkB D) (by rw [mk_size]; omega) w
    rw [bs_mk, hV.out] at h
    exact h)
  obtain ⟨Z, hZ⟩ : ∃ Z, Hid ((D == [48]) = Z) := ⟨_, Lib.hid rfl⟩
  have hz : ((mkB D).toList == [48]) = Z := by rw [bs_toList, bs_mk]; exact hZ.out
  have HS : Hid (p = if !V || (N && Z) then (6, 0) else if 600 < D.length then (5, 0) else (0, if N then -(Kt.valN D : Int) else (Kt.valN D : Int))) := Lib.hid (by
    rw [hp.out]
    unfold Kt.pZ
    rw [if_neg (by omega), hN.out, hD.out, hV.out, hZ.out])
  clear h1 hp
  go_enter Tryd.func22, Tryd.ntmps22
  go_wp2_with fail
  refine (hcut.out _).mono ?_
  rintro e wx ⟨rfl, rfl⟩
  revert i1
  generalize w.alloc (.cells #[.bool false, .slice none 0 0] 24) = w1
  intro i1
  go_wp2_with fail
  refine (hnum.out _).mono ?_
  rintro e w2 ⟨rfl, hb2⟩
  have i2 := i1.below hb2
  clear i1 hb2
  have d0 := i2.t1.c0
  have d1 := i2.t1.c1
  have f0 := i2.t1.fr 0
  have f1 := i2.t1.fr 1
  have hzl := i2.t1.lt
  cases hbad : (!V || (N && Z)) with
  | true =>
    have HP : Hid (p = (6, 0)) := Lib.hid (by rw [HS.out, hbad]; rfl)
    have key : (V = false) ∨ (V = true ∧ N = true ∧ Z = true) := by cases V <;> cases N <;> cases Z <;> simp_all
    clear hbad
    rcases key with rfl | ⟨rfl, rfl, rfl⟩
    all_goals
      go_wp2_with fail
      have tp := i2.t1.put (.bool false) (.slice none 0 0)
      have r0 := tp.c0
      have r1 := tp.c1
      refine bodyPost_ret (v := .tuple #[.agg #[.bool false, .slice none 0 0], .int .i64 6]) (by simp [results, Tryd.results22, go_sem, r0, r1]) rfl ?_
      exact PRes.err HP.out ((i2.bel.setCell (p := ⟨w.heap.size, 0, none⟩) (Nat.le_refl _) _).setCell (p := ⟨w.heap.size, 1, none⟩) (Nat.le_refl _) _)
  | false =>
    have key : (V = true ∧ N = false) ∨ (V = true ∧ N = true ∧ Z = false) := by cases V <;> cases N <;> cases Z <;> simp_all
    by_cases h6 : 600 < D.length
    · have HP : Hid (p = (5, 0)) := Lib.hid (by rw [HS.out, hbad, if_neg (by decide), if_pos h6])
      have hd6 : (600 : Int) < ((mkB D).size : Int) := by rw [mk_size]; omega
      clear hbad h6
      rcases key with ⟨rfl, rfl⟩ | ⟨rfl, rfl, rfl⟩
      all_goals
        go_wp2_with fail
        have tp := i2.t1.put (.bool false) (.slice none 0 0)
        have r0 := tp.c0
        have r1 := tp.c1
        refine bodyPost_ret (v := .tuple #[.agg #[.bool false, .slice none 0 0], .int .i64 5]) (by simp [results, Tryd.results22, go_sem, r0, r1]) rfl ?_
        exact PRes.err HP.out ((i2.bel.setCell (p := ⟨w.heap.size, 0, none⟩) (Nat.le_refl _) _).setCell (p := ⟨w.heap.size, 1, none⟩) (Nat.le_refl _) _)
    · have hd6 : ¬ (600 : Int) < ((mkB D).size : Int) := by rw [mk_size]; omega
      have hNV : Hid (p = (0, if N then -(Kt.valN D : Int) else (Kt.valN D : Int))) := Lib.hid (by rw [HS.out, hbad, if_neg (by decide), if_neg h6])
      have HSG : Hid (∀ (A : Option Addr) (c : Nat) (ws : List Nat) (wr : World), Sl wr wr.heap.size A c ws → ws.length ≤ 1000000000 → Kn.val ws = Kt.valN D → ∃ z : Int, Hid (p = (0, z)) ∧ Hid (Calls Tryd.prog 29 #[.bool N, .slice A ws.length c] wr (IntRes z wr))) := Lib.hid (fun A c ws wr h hl hv =>
        ⟨Kn.iv N ws, Lib.hid (by rw [hNV.out, ← hv]; rfl), Lib.hid (signed_any N A c ws wr h hl)⟩)
      clear hNV
      have hdig : Hid (D.all Kt.digC = true) := Lib.hid (by
        have hv : V = true := by rcases key with ⟨h, _⟩ | ⟨h, _⟩ <;> exact h
        have h := hV.out
        rw [hv] at h
        exact (Kt.isNum_canon h).2.1)
      obtain ⟨d, hd⟩ : ∃ d, d = mkB D := ⟨_, rfl⟩
      have hdD : Hid (bs d = D) := Lib.hid (by rw [hd, bs_mk])
      have hdl : d.size ≤ 600 := by rw [hd, mk_size]; omega
      rw [← hd] at hz hd6 ⊢
      clear hbad h6 hd
      obtain ⟨cap, hcap⟩ : ∃ cap, Hid (cap = grownCap w2 d.size 0 5) := ⟨_, Lib.hid rfl⟩
      obtain ⟨O, hO⟩ : ∃ O, Hid (O = Obj.cells (bytesRow d cap) 5 ((bytesRow d cap).size, (bytesRow d cap).size + 1)) := ⟨_, Lib.hid rfl⟩
      have hcv : (convert 9 51 (.string d)).run Tryd.prog w2 = .ok (.slice (some ⟨w2.heap.size, 0, none⟩) d.size cap) (w2.alloc O).drew := by
        rw [hO.out, hcap.out]
        exact run_bytes_of_string w2 9 51 5 d Tryd.underlying9 Tryd.underlying51 Tryd.underlying5
      have R0 : ByR (w2.alloc O).drew w2.heap.size d := by rw [hO.out]; exact ByR.new_ w2 d cap _ _
      have i3 : B1 w (w2.alloc O).drew := i2.below ((al1 w2 O).trans ⟨rfl, rfl, rfl, Nat.le_refl _, fun _ _ => rfl⟩)
      have hwl3 : w2.heap.size < (w2.alloc O).drew.heap.size := R0.lt
      clear i2 d0 d1 f0 f1 hzl
      have HCV := hcv
      rcases key with ⟨rfl, rfl⟩ | ⟨rfl, rfl, rfl⟩
      all_goals
        go_wp2_with fail
        clear hcv HCV hwl3
        revert R0 i3
        generalize (w2.alloc O).drew = w3
        generalize w2.heap.size = g
        intro R0 i3
        have I0 : Ad w3.heap.size w3 w3 (.slice none 0 0) 0 [] := ⟨World.ownsRow_nil _ _ _ _, rfl, Kn.Wd.nil, Nat.le_refl _, Below.refl _ _⟩
        go_loopw [6, 36] (fun v iv wr => ∃ (i : Nat) (ws : List Nat), i ≤ d.size ∧ iv = .int .i64 (i : Int) ∧ Ad w3.heap.size w3 wr v ws.length ws ∧ ws.length ≤ i ∧ Hid (Kn.val ws = Kt.valN ((bs d).take i))) (fun _ iv _ => d.size - (intOf iv).toNat)
        case atStart => exact ⟨0, [], Nat.zero_le _, rfl, I0, Nat.le_refl _, Lib.hid (by rw [List.take_zero]; rfl)⟩
        case round =>
          clear I0
          obtain ⟨i, ws, hi, rfl, I, hwl, HV⟩ := hrel
          have R := R0.below I.bel R0.lt I.bel.size
          have J := i3.below I.bel
          have hdl2 := bs_length d
          by_cases hlt : i < d.size
          · have hltI : (i : Int) < (d.size : Int) := by omega
            have hdr := drop_at hlt
            have hdc : Kt.digC d[i] = true := List.all_eq_true.1 (by rw [hdD.out]; exact hdig.out : (bs d).all Kt.digC = true) _ (List.mem_of_mem_drop (by rw [hdr]; exact List.mem_cons_self ..))
            obtain ⟨dg, hdg, hd9⟩ : ∃ dg, d[i].toNat = dg + 48 ∧ dg ≤ 9 := by
              unfold Kt.digC at hdc
              simp at hdc
              exact ⟨d[i].toNat - 48, by omega, by omega⟩
            have HV2 : Hid (10 * Kn.val ws + dg = Kt.valN ((bs d).take (i + 1))) := Lib.hid (by rw [Kt.val_take hdr, HV.out]; omega)
            have hc := R.at_ i hlt
            rw [show ((d[i].toNat : Nat) : Int) = (dg : Int) + 48 by omega] at hc
            clear hdr hdc hdg HV R J hdl2
            go_wp2_with fail
            refine (appendDigit_any w3.heap.size _ ws dg wr I.again (by omega) hd9).mono ?_
            rintro e w5 ⟨v', ws', rfl, K, hval, hlen5⟩
            have K2 : Ad w3.heap.size w3 w5 v' ws'.length ws' := ⟨K.own, K.len, K.wd, K.hz, I.bel.trans K.bel⟩
            have HV3 : Hid (Kn.val ws' = Kt.valN ((bs d).take (i + 1))) := Lib.hid (by rw [hval]; exact HV2.out)
            clear I K hval HV2 hc
            go_wp2_with fail
            go_roundw
            case rel => exact ⟨i + 1, ws', by omega, by go_num, K2, by omega, HV3⟩
            case measure => simp [intOf]; omega
          · have hltI : ¬ (i : Int) < (d.size : Int) := by omega
            have HVD : Hid (Kn.val ws = Kt.valN D) := Lib.hid (by rw [HV.out, List.take_of_length_le (by omega), hdD.out])
            obtain ⟨A, c, rfl, hc⟩ := own_slice I.own
            obtain ⟨z, HPz, hsg⟩ := HSG.out A c ws wr (Sl.of_own I.own I.wd hc I.len) (by omega) HVD.out
            clear HV HVD R hdl2
            go_wp2_with fail
            refine hsg.out.mono ?_
            rintro e w6 ⟨A6, c6, rfl, hS, hb6⟩
            have J6 := J.below hb6
            have d0 := J6.t1.c0
            have d1 := J6.t1.c1
            have f0 := J6.t1.fr 0
            have f1 := J6.t1.fr 1
            have hzl := J6.t1.lt
            clear I J hb6 hsg
            go_wp2_with fail
            have tp := J6.t1.put (.bool (decide (z < 0))) (.slice A6 (Kn.dig z.natAbs).length c6)
            have r0 := tp.c0
            have r1 := tp.c1
            refine bodyPost_ret (v := .tuple #[.agg #[.bool (decide (z < 0)), .slice A6 (Kn.dig z.natAbs).length c6], .int .i64 0]) (by simp [results, Tryd.results22, go_sem, r0, r1]) rfl ?_
            rw [HPz.out]
            exact ⟨A6, c6, rfl, (hS.put J6.t1 _ _).more (by simp [World.setCell]), (J6.bel.setCell (p := ⟨w.heap.size, 0, none⟩) (Nat.le_refl _) _).setCell (p := ⟨w.heap.size, 1, none⟩) (Nat.le_refl _) _⟩
end Go.Proofs.YtmhfdmidaheoeaaDoor
