/- Walks: the reference's Parse (written by gen/mkbtrparse.py). -/
import Derived.Test.YtckenemkfegopaaDoorT6
import Derived.Test.YtckenemkfegopaaDoorWp
namespace Go.Proofs.YtckenemkfegopaaDoor
open Go.RowKit
set_option linter.unusedVariables false

namespace Kt
theorem pR_none1 {l : List UInt8} (h : pA true (-1) l = none) : pR 4096 (123 :: l) = none := by rw [pR_loop, h]
theorem pR_none2 {l r : List UInt8} {ms : List Nat} (h : pA true (-1) l = some (ms, r)) (hr : ∀ l2, r ≠ 125 :: 47 :: l2) : pR 4096 (123 :: l) = none := by
  rw [pR_loop, h]
  split
  · rename_i ms' l2 e
    injection e with e
    injection e with e1 e2
    exact absurd e2 (hr l2)
  · rfl
theorem pR_num {l l2 : List UInt8} {ms : List Nat} (h : pA true (-1) l = some (ms, 125 :: 47 :: l2)) : pR 4096 (123 :: l) = match numR 4096 l2 with
      | some (n, k) => if k = l2.length ∧ lastT (-1) ms < (n : Int) then some (n, ms) else none
      | none => none := by rw [pR_loop, h]; rfl
end Kt
theorem index_next {s : ByteArray} {a : Nat} (h : a + 1 < s.size) (W : World) : (Instr.index 9 (.string s) (.int .i64 ((a : Int) + 1))).run Tryd.prog W = .ok (.int .u8 ((s[a + 1].toNat : Nat) : Int)) W := by
  have e : ((a : Int) + 1).toNat = a + 1 := by omega
  rw [run_index_string W _ s _ _ Tryd.underlying9, dif_pos ⟨by omega, by omega⟩]
  simp only [e]
theorem is_n {c : UInt8} {n : Int} (h : ((c.toNat : Nat) : Int) = n) : (((c.toNat : Nat) : Int) != n) = false := by unfold bne; rw [is_i h]; rfl
theorem no_n {c : UInt8} {n : Int} (h : ((c.toNat : Nat) : Int) ≠ n) : (((c.toNat : Nat) : Int) != n) = true := by unfold bne; rw [no_i h]; rfl
theorem map_fst {o : Option (List Nat × List UInt8)} {ms : List Nat} : o = none → o.map (fun p => (ms ++ p.1, p.2)) = none := by rintro rfl; rfl
/-- a loop's promise: what the whole reads is what was read and what the rest reads -/
def PHyp (s : ByteArray) (a : Nat) (last : Int) (ms : List Nat) : Prop :=
  Kt.lastT (-1) ms = last ∧ Kt.pA true (-1) ((bs s).drop 1) = (Kt.pA ms.isEmpty last ((bs s).drop a)).map fun p => (ms ++ p.1, p.2)
theorem PHyp.none {s : ByteArray} {a : Nat} {last : Int} {ms : List Nat} (h : PHyp s a last ms) (hn : Kt.pA ms.isEmpty last ((bs s).drop a) = none) : Kt.pA true (-1) ((bs s).drop 1) = none := by
  rw [h.2, hn]; rfl
theorem PHyp.stop {s : ByteArray} {a : Nat} {last : Int} {ms : List Nat} {r : List UInt8} (h : PHyp s a last ms) (hn : Kt.pA ms.isEmpty last ((bs s).drop a) = some ([], r)) : Kt.pA true (-1) ((bs s).drop 1) = some (ms, r) := by
  rw [h.2, hn]; simp
theorem PHyp.step {s : ByteArray} {a b n k : Nat} {last : Int} {ms : List Nat} {c : UInt8} {l l2 : List UInt8} (h : PHyp s a last ms) (hd : (bs s).drop a = c :: l) (hc : c ≠ 125) (hs : Kt.SepOf ms.isEmpty c l l2) (hl : l2 = (bs s).drop b) (hn : Kt.numR 4096 l2 = some (n, k)) (hlow : ¬ (n : Int) ≤ last) : PHyp s (b + k) (n : Int) (ms ++ [n]) := by
  refine ⟨Kt.lastT_snoc _ _ _, ?_⟩
  rw [h.2, hd, Kt.pA_ok hc hs hn hlow, hl, List.drop_drop]
  have e : (ms ++ [n]).isEmpty = false := by cases ms <;> rfl
  rw [e]
  cases Kt.pA false (n : Int) ((bs s).drop (b + k)) <;> simp

set_option maxRecDepth 100000 in
set_option maxHeartbeats 8000000 in
theorem rparse_any (s : ByteArray) (hs : s.size ≤ 100000) (w : World) :
    Calls Tryd.prog 54 #[.string s] w (ParRes (Kt.pR 4096 (bs s)) w) := by
  obtain ⟨i0, hi, hz0, hz1, hz2⟩ := info_parts infoInt
  have hlen := bs_length s
  have B1 : Below w.heap.size w (w.alloc (.cells #[.int .i64 0, .slice none 0 0] 46)) := (Below.refl _ _).alloc (Nat.le_refl _) _
  have i1 : ChInv w (w.alloc (.cells #[.int .i64 0, .slice none 0 0] 46)) (.int .i64 0) (.slice none 0 0) := ⟨Two.new_ _ _ _ _, B1⟩
  by_cases h0 : s.size = 0
  · have hE : ((s.size : Int) == 0) = true := by rw [beq_iff_eq]; omega
    have HR : Hid (Kt.pR 4096 (bs s) = none) := Lib.hid (by rw [List.eq_nil_of_length_eq_zero (l := bs s) (by omega)]; rfl)
    go_enter Tryd.func54, Tryd.ntmps54
    have d10 : _ = some (Value.int .i64 0) := i1.t1.c0
    have d11 : _ = some (Value.slice none 0 0) := i1.t1.c1
    have f10 := i1.t1.fr 0
    have f11 := i1.t1.fr 1
    have hz := i1.t1.lt
    go_wp2_with fail
    have r0 := i1.t1.c0
    have r1 := i1.t1.c1
    refine bodyPost_ret (v := .tuple #[setV 0 none 0 0, .int .i64 6]) (by simp [results, Tryd.results54, go_sem, setV]) rfl ?_
    exact ParRes.no HR.out ⟨rfl, i1.bel⟩
  have hE : ((s.size : Int) == 0) = false := by rw [beq_eq_false_iff_ne]; omega
  have h1 : 0 < s.size := by omega
  have hd0 := drop_at h1
  rw [List.drop_zero] at hd0
  by_cases hq : s[0].toNat = 123
  · have hb := is_n (c := s[0]) (n := 123) (by omega)
    have HB : Hid (bs s = 123 :: (bs s).drop 1) := Lib.hid (by
      have e : s[0] = 123 := UInt8.toNat_inj.1 hq
      rw [e] at hd0
      exact hd0)
    clear hd0 hq i1
    go_enter Tryd.func54, Tryd.ntmps54
    go_wp2_with fail
    have I0 : MeInv w ((w.alloc (.cells #[.int .i64 0, .slice none 0 0] 46)).alloc (.cells #[] 3)) 0 0 none 0 (.slice (some ⟨w.heap.size + 1, 0, none⟩) 0 0) [] :=
      ⟨(Two.new_ _ _ _ _).alloc _, by simpa [icells] using World.ownsRow_made (e := 3) (size := 1) (base := w.heap.size + 1) (w.alloc (.cells #[.int .i64 0, .slice none 0 0] 46)) #[] 0 (by simp) (by unfold maxLen; omega) rfl, by simp, B1.alloc (by simp) _⟩
    clear hb hE
    go_loopw [4, 5, 6] (fun av lv mv wr => ∃ (a : Nat) (last : Int) (ms : List Nat), 1 ≤ a ∧ a ≤ s.size ∧ av = .int .i64 (a : Int) ∧ lv = .int .i64 last ∧ MeInv w wr 0 0 none 0 mv ms ∧ -1 ≤ last ∧ last ≤ 4096 ∧ ms.length ≤ a ∧ (∀ x ∈ ms, x ≤ 4096) ∧ Hid (PHyp s a last ms)) (fun av _ _ _ => s.size - (intOf av).toNat)
    case atStart => exact ⟨1, -1, [], by omega, by omega, rfl, rfl, I0, by omega, by omega, by simp, by simp, Lib.hid ⟨rfl, by
      rw [show ([] : List Nat).isEmpty = true from rfl]
      cases Kt.pA true (-1) ((bs s).drop 1) <;> simp⟩⟩
    case round =>
      clear I0 B1
      obtain ⟨a, last, ms, ha1, ha, rfl, rfl, I, hl1, hl2', hmsl, hms, HP⟩ := hrel
      obtain ⟨A', c', rfl⟩ := own_slice I.own
      by_cases hlt : a < s.size
      · have hltI : (a : Int) < (s.size : Int) := by omega
        have hd := drop_at hlt
        by_cases hq : s[a].toNat = 125
        · have e125 : s[a] = 125 := UInt8.toNat_inj.1 hq
          have hb := is_n (c := s[a]) (n := 125) (by omega)
          have HS : Hid (Kt.pA true (-1) ((bs s).drop 1) = some (ms, 125 :: (bs s).drop (a + 1))) := Lib.hid (HP.out.stop (by rw [hd]; rw [Kt.pA_end e125, e125]))
          by_cases h1 : a + 1 < s.size
          · have h1I : ¬ (s.size : Int) ≤ (a : Int) + 1 := by omega
            have hix := index_next h1
            have hd1 := drop_at h1
            by_cases h47 : s[a + 1].toNat = 47
            · have hb2 := is_n (c := s[a + 1]) (n := 47) (by omega)
              have e47 : s[a + 1] = 47 := UInt8.toNat_inj.1 h47
              have HN : Hid (Kt.pR 4096 (bs s) = match Kt.numR 4096 ((bs s).drop (a + 2)) with
                  | some (n, k) => if k = ((bs s).drop (a + 2)).length ∧ Kt.lastT (-1) ms < (n : Int) then some (n, ms) else none
                  | none => none) := Lib.hid (by
                have h := HS.out
                rw [hd1, e47] at h
                have e := Kt.pR_num h
                rw [← HB.out] at e
                exact e)
              have HL : Hid (Kt.lastT (-1) ms = last) := Lib.hid HP.out.1
              clear hd hd1 HS HP e125 e47 hq h47
              go_wp2_with fail
              rw [show (a : Int) + 2 = ((a + 2 : Nat) : Int) by omega]
              refine (rnumber_any s (a + 2) hs (by omega) _).mono ?_
              rintro e wx ⟨rfl, q, rfl⟩
              have I2 := I.below (drewB _ q)
              clear I
              revert I2
              generalize wr.drewN q = wy
              intro I2
              cases hn : Kt.numR 4096 ((bs s).drop (a + 2)) with
              | none =>
                have HR : Hid (Kt.pR 4096 (bs s) = none) := Lib.hid (by rw [HN.out, hn])
                have hE : ((-1 : Int) == (s.size : Int)) = false := by rw [beq_eq_false_iff_ne]; omega
                unfold numV
                clear hn HN HL
                have d10 : _ = some (Value.int .i64 0) := I2.t1.c0
                have d11 : _ = some (Value.slice none 0 0) := I2.t1.c1
                have f10 := I2.t1.fr 0
                have f11 := I2.t1.fr 1
                have hz := I2.t1.lt
                go_wp2_with fail
                have tp := I2.t1.put (.int .i64 0) (.slice none 0 0)
                have r0 := tp.c0
                have r1 := tp.c1
                refine bodyPost_ret (v := .tuple #[setV 0 none 0 0, .int .i64 6]) (by simp [results, Tryd.results54, go_sem, r0, r1, setV]) rfl ?_
                exact ParRes.no HR.out ⟨rfl, (I2.bel.setCell (p := ⟨w.heap.size, 0, none⟩) (Nat.le_refl _) _).setCell (p := ⟨w.heap.size, 1, none⟩) (Nat.le_refl _) _⟩
              | some p =>
                obtain ⟨n, k⟩ := p
                have hk := Kt.numR_pos hn
                rw [List.length_drop, bs_length] at hk
                have hn4 := (Kt.numR_some hn).1
                unfold numV
                dsimp only
                by_cases hend : a + 2 + k = s.size
                · have hE : (((a + 2 + k : Nat) : Int) == (s.size : Int)) = true := by rw [beq_iff_eq]; omega
                  by_cases hla : (n : Int) ≤ last
                  · have HR : Hid (Kt.pR 4096 (bs s) = none) := Lib.hid (by rw [HN.out, hn]; dsimp only; rw [if_neg (by rw [HL.out]; omega)])
                    clear hn HN HL
                    have d10 : _ = some (Value.int .i64 0) := I2.t1.c0
                    have d11 : _ = some (Value.slice none 0 0) := I2.t1.c1
                    have f10 := I2.t1.fr 0
                    have f11 := I2.t1.fr 1
                    have hz := I2.t1.lt
                    go_wp2_with fail
                    have tp := I2.t1.put (.int .i64 0) (.slice none 0 0)
                    have r0 := tp.c0
                    have r1 := tp.c1
                    refine bodyPost_ret (v := .tuple #[setV 0 none 0 0, .int .i64 6]) (by simp [results, Tryd.results54, go_sem, r0, r1, setV]) rfl ?_
                    exact ParRes.no HR.out ⟨rfl, (I2.bel.setCell (p := ⟨w.heap.size, 0, none⟩) (Nat.le_refl _) _).setCell (p := ⟨w.heap.size, 1, none⟩) (Nat.le_refl _) _⟩
                  · have HR : Hid (Kt.pR 4096 (bs s) = some (n, ms)) := Lib.hid (by rw [HN.out, hn]; dsimp only; rw [if_pos ⟨by rw [List.length_drop, bs_length]; omega, by rw [HL.out]; omega⟩])
                    have hin := (Kt.par_some HR.out).2.2.2.1
                    have hI := ints_of_own I2.own hms
                    clear hn HN HL
                    go_wp2_with fail
                    rw [show Value.slice A' ms.length c' = Value.slice A' (ms.map fun x : Nat => (x : Int)).length c' by rw [List.length_map]]
                    refine (rof_ok n hn4 A' c' _ _ hI (by rw [List.length_map]; omega) hin).mono ?_
                    rintro e w5 ⟨A2, c2, rfl, hW, hb5⟩
                    have i5 := I2.t1.below hb5 I2.t1.lt
                    have b5 := I2.bel.trans (hb5.mono I2.bel.size)
                    have hws : (Kb.mkWords n (memB (ms.map fun x : Nat => (x : Int)))) = Kt.wordsT n ms := rfl
                    rw [hws] at hW ⊢
                    clear hin hI hws I2 hb5
                    revert hW
                    generalize hws : Kt.wordsT n ms = ws
                    have HW := Lib.hid hws
                    clear hws
                    intro hW
                    have k10 : w5.cell? _ = some (Value.int .i64 0) := i5.c0
                    have k11 : w5.cell? _ = some (.slice none 0 0) := i5.c1
                    have g10 := i5.fr 0
                    have g11 := i5.fr 1
                    have kz := i5.lt
                    have m10 : (w5.alloc (.cells #[.int .i64 (n : Int), .slice A2 ws.length c2] 46)).cell? _ = some (.int .i64 0) := (i5.alloc _).c0
                    have m11 : (w5.alloc (.cells #[.int .i64 (n : Int), .slice A2 ws.length c2] 46)).cell? _ = some (.slice none 0 0) := (i5.alloc _).c1
                    unfold setV
                    go_wp2_with fail
                    have tp := (i5.put (.int .i64 (n : Int)) (.slice A2 ws.length c2)).alloc (.cells #[.int .i64 (n : Int), .slice A2 ws.length c2] 46)
                    have r0 := tp.c0
                    have r1 := tp.c1
                    refine bodyPost_ret (v := .tuple #[setV (n : Int) A2 ws.length c2, .int .i64 0]) (by simp [results, Tryd.results54, go_sem, r0, r1, setV]) rfl ?_
                    refine ParRes.yes HR.out ⟨A2, c2, by rw [HW.out], ?_, ?_⟩
                    · rw [HW.out]
                      exact ((hW.put_two i5 _ _).alloc (by simp [World.setCell]) _).more (by simp [World.setCell])
                    · exact ((b5.setCell (p := ⟨w.heap.size, 0, none⟩) (Nat.le_refl _) _).setCell (p := ⟨w.heap.size, 1, none⟩) (Nat.le_refl _) _).alloc (by simp [World.setCell]; omega) _
                · have hE : (((a + 2 + k : Nat) : Int) == (s.size : Int)) = false := by rw [beq_eq_false_iff_ne]; omega
                  have HR : Hid (Kt.pR 4096 (bs s) = none) := Lib.hid (by rw [HN.out, hn]; dsimp only; rw [if_neg (by rw [List.length_drop, bs_length]; omega)])
                  clear hn HN HL
                  have d10 : _ = some (Value.int .i64 0) := I2.t1.c0
                  have d11 : _ = some (Value.slice none 0 0) := I2.t1.c1
                  have f10 := I2.t1.fr 0
                  have f11 := I2.t1.fr 1
                  have hz := I2.t1.lt
                  go_wp2_with fail
                  have tp := I2.t1.put (.int .i64 0) (.slice none 0 0)
                  have r0 := tp.c0
                  have r1 := tp.c1
                  refine bodyPost_ret (v := .tuple #[setV 0 none 0 0, .int .i64 6]) (by simp [results, Tryd.results54, go_sem, r0, r1, setV]) rfl ?_
                  exact ParRes.no HR.out ⟨rfl, (I2.bel.setCell (p := ⟨w.heap.size, 0, none⟩) (Nat.le_refl _) _).setCell (p := ⟨w.heap.size, 1, none⟩) (Nat.le_refl _) _⟩
            · have hb2 := no_n (c := s[a + 1]) (n := 47) (by omega)
              have HR : Hid (Kt.pR 4096 (bs s) = none) := Lib.hid (by
                rw [HB.out]
                exact Kt.pR_none2 HS.out (fun l2 e => h47 (by rw [hd1] at e; injection e with _ e; injection e with e _; rw [e]; rfl)))
              clear hd hd1 HS HP e125 hq h47
              have d10 : _ = some (Value.int .i64 0) := I.t1.c0
              have d11 : _ = some (Value.slice none 0 0) := I.t1.c1
              have f10 := I.t1.fr 0
              have f11 := I.t1.fr 1
              have hz := I.t1.lt
              go_wp2_with fail
              have tp := I.t1.put (.int .i64 0) (.slice none 0 0)
              have r0 := tp.c0
              have r1 := tp.c1
              refine bodyPost_ret (v := .tuple #[setV 0 none 0 0, .int .i64 6]) (by simp [results, Tryd.results54, go_sem, r0, r1, setV]) rfl ?_
              exact ParRes.no HR.out ⟨rfl, (I.bel.setCell (p := ⟨w.heap.size, 0, none⟩) (Nat.le_refl _) _).setCell (p := ⟨w.heap.size, 1, none⟩) (Nat.le_refl _) _⟩
          · have h1I : (s.size : Int) ≤ (a : Int) + 1 := by omega
            have HR : Hid (Kt.pR 4096 (bs s) = none) := Lib.hid (by
              rw [HB.out]
              exact Kt.pR_none2 HS.out (fun l2 e => by
                have h2 : (bs s).drop (a + 1) = [] := List.drop_eq_nil_of_le (by rw [bs_length]; omega)
                rw [h2] at e
                injection e with _ e
                cases e))
            clear hd HS HP e125 hq
            have d10 : _ = some (Value.int .i64 0) := I.t1.c0
            have d11 : _ = some (Value.slice none 0 0) := I.t1.c1
            have f10 := I.t1.fr 0
            have f11 := I.t1.fr 1
            have hz := I.t1.lt
            go_wp2_with fail
            have tp := I.t1.put (.int .i64 0) (.slice none 0 0)
            have r0 := tp.c0
            have r1 := tp.c1
            refine bodyPost_ret (v := .tuple #[setV 0 none 0 0, .int .i64 6]) (by simp [results, Tryd.results54, go_sem, r0, r1, setV]) rfl ?_
            exact ParRes.no HR.out ⟨rfl, (I.bel.setCell (p := ⟨w.heap.size, 0, none⟩) (Nat.le_refl _) _).setCell (p := ⟨w.heap.size, 1, none⟩) (Nat.le_refl _) _⟩
        · have hb := no_n (c := s[a]) (n := 125) (by omega)
          have hc : s[a] ≠ 125 := fun e => hq (by rw [e]; rfl)
          clear hq
          by_cases hm0 : ms = []
          · have hmI : ¬ (0 : Int) < (ms.length : Int) := by rw [hm0]; decide
            have hsep : Hid (Kt.SepOf ms.isEmpty s[a] ((bs s).drop (a + 1)) ((bs s).drop a)) := Lib.hid (.inl ⟨by rw [hm0]; rfl, hd⟩)
            have HD := Lib.hid hd
            have HC := Lib.hid hc
            clear hm0 hd hc
            go_wp2_with fail
            refine (rnumber_any s (a) hs (by omega) _).mono ?_
            rintro e wx ⟨rfl, q, rfl⟩
            have I2 := I.below (drewB _ q)
            clear I
            revert I2
            generalize wr.drewN q = wy
            intro I2
            cases hn : Kt.numR 4096 ((bs s).drop (a)) with
            | none =>
              have HR : Hid (Kt.pR 4096 (bs s) = none) := Lib.hid (by rw [HB.out]; exact Kt.pR_none1 (HP.out.none (by rw [HD.out]; exact Kt.pA_none HC.out hsep.out hn)))
              unfold numV
              clear hn hsep HD HC HP
              have d10 : _ = some (Value.int .i64 0) := I2.t1.c0
              have d11 : _ = some (Value.slice none 0 0) := I2.t1.c1
              have f10 := I2.t1.fr 0
              have f11 := I2.t1.fr 1
              have hz := I2.t1.lt
              go_wp2_with fail
              have tp := I2.t1.put (.int .i64 0) (.slice none 0 0)
              have r0 := tp.c0
              have r1 := tp.c1
              refine bodyPost_ret (v := .tuple #[setV 0 none 0 0, .int .i64 6]) (by simp [results, Tryd.results54, go_sem, r0, r1, setV]) rfl ?_
              exact ParRes.no HR.out ⟨rfl, (I2.bel.setCell (p := ⟨w.heap.size, 0, none⟩) (Nat.le_refl _) _).setCell (p := ⟨w.heap.size, 1, none⟩) (Nat.le_refl _) _⟩
            | some p =>
              obtain ⟨n, k⟩ := p
              have hk := Kt.numR_pos hn
              rw [List.length_drop, bs_length] at hk
              have hn4 := (Kt.numR_some hn).1
              unfold numV
              dsimp only
              by_cases hlow : (n : Int) ≤ last
              · have HR : Hid (Kt.pR 4096 (bs s) = none) := Lib.hid (by rw [HB.out]; exact Kt.pR_none1 (HP.out.none (by rw [HD.out]; exact Kt.pA_low HC.out hsep.out hn hlow)))
                clear hn hsep HD HC HP
                have d10 : _ = some (Value.int .i64 0) := I2.t1.c0
                have d11 : _ = some (Value.slice none 0 0) := I2.t1.c1
                have f10 := I2.t1.fr 0
                have f11 := I2.t1.fr 1
                have hz := I2.t1.lt
                go_wp2_with fail
                have tp := I2.t1.put (.int .i64 0) (.slice none 0 0)
                have r0 := tp.c0
                have r1 := tp.c1
                refine bodyPost_ret (v := .tuple #[setV 0 none 0 0, .int .i64 6]) (by simp [results, Tryd.results54, go_sem, r0, r1, setV]) rfl ?_
                exact ParRes.no HR.out ⟨rfl, (I2.bel.setCell (p := ⟨w.heap.size, 0, none⟩) (Nat.le_refl _) _).setCell (p := ⟨w.heap.size, 1, none⟩) (Nat.le_refl _) _⟩
              · have HP2 := Lib.hid (HP.out.step HD.out HC.out hsep.out rfl hn hlow)
                obtain ⟨m, hm⟩ : ∃ m : Nat, m = a + k := ⟨_, rfl⟩
                rw [← hm] at HP2
                have hmI : ((a + k : Nat) : Int) = (m : Int) := by omega
                rw [hmI]
                have hmn : ¬ (m : Int) < 0 := by omega
                clear hn hsep HD HC HP
                have ho := I2.own
                go_wp2_with (at_builtin; refine wpList_append_own _ rfl _ _ 86 rfl (w.heap.size + 1) 3 i0 (.int .i64 0) 1 8 Tryd.underlying86 hi hz0 hz1 hz2 rfl (by decide) _ _ _ rfl (ho.alloc _) ⟨wy.heap.size, 0, none⟩ 1 1 [.int .i64 (n : Int)] rfl rfl ?c1 ?c2 ?c3 ?c4 ?c5 ?_)
                try (case c1 => exact cell_one_new _ _ _)
                try (case c2 => first | rfl | (intro u hu; simp at hu; subst hu; rfl))
                try (case c3 => first | omega | (unfold maxLen; omega))
                try (case c4 => omega)
                try (case c5 => have := I2.hz; first | omega | (simp; omega))
                intro v' w3 hown' hgrow _
                have I3 := I2.grown (j := n) hown' hgrow
                clear hown' hgrow I2 ho
                go_wp2_with fail
                go_roundw
                case rel => exact ⟨m, (n : Int), ms ++ [n], by omega, by omega, rfl, rfl, I3, by omega, by omega, by simp; omega, by
                  intro x hx
                  rcases List.mem_append.1 hx with hx | hx
                  · exact hms x hx
                  · rw [List.mem_singleton.1 hx]; exact hn4, HP2⟩
                case measure => simp [intOf]; omega
          · have hmI : (0 : Int) < (ms.length : Int) := by have := List.length_pos_iff.2 hm0; omega
            have hem : ms.isEmpty = false := by cases ms with | nil => exact absurd rfl hm0 | cons _ _ => rfl
            by_cases h1 : a + 1 < s.size
            · have h1I : ¬ (s.size : Int) ≤ (a : Int) + 1 := by omega
              have hix := index_next h1
              have hd1 := drop_at h1
              by_cases h44 : s[a].toNat = 44
              · have hb4 := is_n (c := s[a]) (n := 44) (by omega)
                have e44 : s[a] = 44 := UInt8.toNat_inj.1 h44
                by_cases h32 : s[a + 1].toNat = 32
                · have hb3 := is_n (c := s[a + 1]) (n := 32) (by omega)
                  have e32 : s[a + 1] = 32 := UInt8.toNat_inj.1 h32
                  have hsep : Hid (Kt.SepOf ms.isEmpty s[a] ((bs s).drop (a + 1)) ((bs s).drop (a + 2))) := Lib.hid (.inr ⟨hem, e44, by rw [hd1, e32]⟩)
                  have HD := Lib.hid hd
                  have HC := Lib.hid hc
                  clear hm0 hem hd1 h44 e44 h32 e32 hd hc
                  go_wp2_with fail
                  rw [show (a : Int) + 2 = ((a + 2 : Nat) : Int) by omega]
                  refine (rnumber_any s (a + 2) hs (by omega) _).mono ?_
                  rintro e wx ⟨rfl, q, rfl⟩
                  have I2 := I.below (drewB _ q)
                  clear I
                  revert I2
                  generalize wr.drewN q = wy
                  intro I2
                  cases hn : Kt.numR 4096 ((bs s).drop (a + 2)) with
                  | none =>
                    have HR : Hid (Kt.pR 4096 (bs s) = none) := Lib.hid (by rw [HB.out]; exact Kt.pR_none1 (HP.out.none (by rw [HD.out]; exact Kt.pA_none HC.out hsep.out hn)))
                    unfold numV
                    clear hn hsep HD HC HP
                    have d10 : _ = some (Value.int .i64 0) := I2.t1.c0
                    have d11 : _ = some (Value.slice none 0 0) := I2.t1.c1
                    have f10 := I2.t1.fr 0
                    have f11 := I2.t1.fr 1
                    have hz := I2.t1.lt
                    go_wp2_with fail
                    have tp := I2.t1.put (.int .i64 0) (.slice none 0 0)
                    have r0 := tp.c0
                    have r1 := tp.c1
                    refine bodyPost_ret (v := .tuple #[setV 0 none 0 0, .int .i64 6]) (by simp [results, Tryd.results54, go_sem, r0, r1, setV]) rfl ?_
                    exact ParRes.no HR.out ⟨rfl, (I2.bel.setCell (p := ⟨w.heap.size, 0, none⟩) (Nat.le_refl _) _).setCell (p := ⟨w.heap.size, 1, none⟩) (Nat.le_refl _) _⟩
                  | some p =>
                    obtain ⟨n, k⟩ := p
                    have hk := Kt.numR_pos hn
                    rw [List.length_drop, bs_length] at hk
                    have hn4 := (Kt.numR_some hn).1
                    unfold numV
                    dsimp only
                    by_cases hlow : (n : Int) ≤ last
                    · have HR : Hid (Kt.pR 4096 (bs s) = none) := Lib.hid (by rw [HB.out]; exact Kt.pR_none1 (HP.out.none (by rw [HD.out]; exact Kt.pA_low HC.out hsep.out hn hlow)))
                      clear hn hsep HD HC HP
                      have d10 : _ = some (Value.int .i64 0) := I2.t1.c0
                      have d11 : _ = some (Value.slice none 0 0) := I2.t1.c1
                      have f10 := I2.t1.fr 0
                      have f11 := I2.t1.fr 1
                      have hz := I2.t1.lt
                      go_wp2_with fail
                      have tp := I2.t1.put (.int .i64 0) (.slice none 0 0)
                      have r0 := tp.c0
                      have r1 := tp.c1
                      refine bodyPost_ret (v := .tuple #[setV 0 none 0 0, .int .i64 6]) (by simp [results, Tryd.results54, go_sem, r0, r1, setV]) rfl ?_
                      exact ParRes.no HR.out ⟨rfl, (I2.bel.setCell (p := ⟨w.heap.size, 0, none⟩) (Nat.le_refl _) _).setCell (p := ⟨w.heap.size, 1, none⟩) (Nat.le_refl _) _⟩
                    · have HP2 := Lib.hid (HP.out.step HD.out HC.out hsep.out rfl hn hlow)
                      obtain ⟨m, hm⟩ : ∃ m : Nat, m = a + 2 + k := ⟨_, rfl⟩
                      rw [← hm] at HP2
                      have hmI : ((a + 2 + k : Nat) : Int) = (m : Int) := by omega
                      rw [hmI]
                      have hmn : ¬ (m : Int) < 0 := by omega
                      clear hn hsep HD HC HP
                      have ho := I2.own
                      go_wp2_with (at_builtin; refine wpList_append_own _ rfl _ _ 86 rfl (w.heap.size + 1) 3 i0 (.int .i64 0) 1 8 Tryd.underlying86 hi hz0 hz1 hz2 rfl (by decide) _ _ _ rfl (ho.alloc _) ⟨wy.heap.size, 0, none⟩ 1 1 [.int .i64 (n : Int)] rfl rfl ?k1 ?k2 ?k3 ?k4 ?k5 ?_)
                      try (case k1 => exact cell_one_new _ _ _)
                      try (case k2 => first | rfl | (intro u hu; simp at hu; subst hu; rfl))
                      try (case k3 => first | omega | (unfold maxLen; omega))
                      try (case k4 => omega)
                      try (case k5 => have := I2.hz; first | omega | (simp; omega))
                      intro v' w3 hown' hgrow _
                      have I3 := I2.grown (j := n) hown' hgrow
                      clear hown' hgrow I2 ho
                      go_wp2_with fail
                      go_roundw
                      case rel => exact ⟨m, (n : Int), ms ++ [n], by omega, by omega, rfl, rfl, I3, by omega, by omega, by simp; omega, by
                        intro x hx
                        rcases List.mem_append.1 hx with hx | hx
                        · exact hms x hx
                        · rw [List.mem_singleton.1 hx]; exact hn4, HP2⟩
                      case measure => simp [intOf]; omega
                · have hb3 := no_n (c := s[a + 1]) (n := 32) (by omega)
                  have HR : Hid (Kt.pR 4096 (bs s) = none) := Lib.hid (by
                    rw [HB.out]
                    exact Kt.pR_none1 (HP.out.none (by
                      rw [hd, hem]
                      exact Kt.pA_sep hc (fun ⟨_, e⟩ => h32 (by rw [hd1] at e; injection e with e; rw [e]; rfl)))))
                  clear hm0 hem hd hd1 h44 e44 h32 hc HP
                  have d10 : _ = some (Value.int .i64 0) := I.t1.c0
                  have d11 : _ = some (Value.slice none 0 0) := I.t1.c1
                  have f10 := I.t1.fr 0
                  have f11 := I.t1.fr 1
                  have hz := I.t1.lt
                  go_wp2_with fail
                  have tp := I.t1.put (.int .i64 0) (.slice none 0 0)
                  have r0 := tp.c0
                  have r1 := tp.c1
                  refine bodyPost_ret (v := .tuple #[setV 0 none 0 0, .int .i64 6]) (by simp [results, Tryd.results54, go_sem, r0, r1, setV]) rfl ?_
                  exact ParRes.no HR.out ⟨rfl, (I.bel.setCell (p := ⟨w.heap.size, 0, none⟩) (Nat.le_refl _) _).setCell (p := ⟨w.heap.size, 1, none⟩) (Nat.le_refl _) _⟩
              · have hb4 := no_n (c := s[a]) (n := 44) (by omega)
                have HR : Hid (Kt.pR 4096 (bs s) = none) := Lib.hid (by
                  rw [HB.out]
                  exact Kt.pR_none1 (HP.out.none (by
                    rw [hd, hem]
                    exact Kt.pA_sep hc (fun ⟨e, _⟩ => h44 (by rw [e]; rfl)))))
                clear hm0 hem hd hd1 h44 hc HP
                have d10 : _ = some (Value.int .i64 0) := I.t1.c0
                have d11 : _ = some (Value.slice none 0 0) := I.t1.c1
                have f10 := I.t1.fr 0
                have f11 := I.t1.fr 1
                have hz := I.t1.lt
                go_wp2_with fail
                have tp := I.t1.put (.int .i64 0) (.slice none 0 0)
                have r0 := tp.c0
                have r1 := tp.c1
                refine bodyPost_ret (v := .tuple #[setV 0 none 0 0, .int .i64 6]) (by simp [results, Tryd.results54, go_sem, r0, r1, setV]) rfl ?_
                exact ParRes.no HR.out ⟨rfl, (I.bel.setCell (p := ⟨w.heap.size, 0, none⟩) (Nat.le_refl _) _).setCell (p := ⟨w.heap.size, 1, none⟩) (Nat.le_refl _) _⟩
            · have h1I : (s.size : Int) ≤ (a : Int) + 1 := by omega
              have HR : Hid (Kt.pR 4096 (bs s) = none) := Lib.hid (by
                rw [HB.out]
                exact Kt.pR_none1 (HP.out.none (by
                  rw [hd, hem]
                  refine Kt.pA_sep hc (fun ⟨_, e⟩ => ?_)
                  have h2 : (bs s).drop (a + 1) = [] := List.drop_eq_nil_of_le (by rw [bs_length]; omega)
                  rw [h2] at e
                  cases e)))
              clear hm0 hem hd hc HP
              have d10 : _ = some (Value.int .i64 0) := I.t1.c0
              have d11 : _ = some (Value.slice none 0 0) := I.t1.c1
              have f10 := I.t1.fr 0
              have f11 := I.t1.fr 1
              have hz := I.t1.lt
              go_wp2_with fail
              have tp := I.t1.put (.int .i64 0) (.slice none 0 0)
              have r0 := tp.c0
              have r1 := tp.c1
              refine bodyPost_ret (v := .tuple #[setV 0 none 0 0, .int .i64 6]) (by simp [results, Tryd.results54, go_sem, r0, r1, setV]) rfl ?_
              exact ParRes.no HR.out ⟨rfl, (I.bel.setCell (p := ⟨w.heap.size, 0, none⟩) (Nat.le_refl _) _).setCell (p := ⟨w.heap.size, 1, none⟩) (Nat.le_refl _) _⟩
      · have hltI : ¬ (a : Int) < (s.size : Int) := by omega
        have h1I : (s.size : Int) ≤ (a : Int) + 1 := by omega
        have HR : Hid (Kt.pR 4096 (bs s) = none) := Lib.hid (by
          rw [HB.out]
          have h2 : (bs s).drop a = [] := List.drop_eq_nil_of_le (by rw [bs_length]; omega)
          exact Kt.pR_none2 (HP.out.stop (by rw [h2]; exact Kt.pA_nil _ _)) (fun l2 e => by cases e))
        clear HP
        have d10 : _ = some (Value.int .i64 0) := I.t1.c0
        have d11 : _ = some (Value.slice none 0 0) := I.t1.c1
        have f10 := I.t1.fr 0
        have f11 := I.t1.fr 1
        have hz := I.t1.lt
        go_wp2_with fail
        have tp := I.t1.put (.int .i64 0) (.slice none 0 0)
        have r0 := tp.c0
        have r1 := tp.c1
        refine bodyPost_ret (v := .tuple #[setV 0 none 0 0, .int .i64 6]) (by simp [results, Tryd.results54, go_sem, r0, r1, setV]) rfl ?_
        exact ParRes.no HR.out ⟨rfl, (I.bel.setCell (p := ⟨w.heap.size, 0, none⟩) (Nat.le_refl _) _).setCell (p := ⟨w.heap.size, 1, none⟩) (Nat.le_refl _) _⟩
  · have hb := no_n (c := s[0]) (n := 123) (by omega)
    have HR : Hid (Kt.pR 4096 (bs s) = none) := Lib.hid (Kt.pR_bad0 (by
      rw [hd0]
      intro e
      injection e with e
      exact hq (by rw [e]; rfl)))
    clear hd0 hq
    go_enter Tryd.func54, Tryd.ntmps54
    have d10 : _ = some (Value.int .i64 0) := i1.t1.c0
    have d11 : _ = some (Value.slice none 0 0) := i1.t1.c1
    have f10 := i1.t1.fr 0
    have f11 := i1.t1.fr 1
    have hz := i1.t1.lt
    go_wp2_with fail
    have r0 := i1.t1.c0
    have r1 := i1.t1.c1
    refine bodyPost_ret (v := .tuple #[setV 0 none 0 0, .int .i64 6]) (by simp [results, Tryd.results54, go_sem, setV]) rfl ?_
    exact ParRes.no HR.out ⟨rfl, i1.bel⟩
end Go.Proofs.YtckenemkfegopaaDoor
