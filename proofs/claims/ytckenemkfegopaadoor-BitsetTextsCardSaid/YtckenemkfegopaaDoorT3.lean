/- Walks: the reference's Text. -/
import Derived.Test.YtckenemkfegopaaDoorT2
import Derived.Test.YtckenemkfegopaaDoorTm
namespace Go.Proofs.YtckenemkfegopaaDoor
open Go.RowKit
set_option linter.unusedVariables false

def mkB (l : List UInt8) : ByteArray := ⟨l.toArray⟩
theorem mk_size (l : List UInt8) : (mkB l).size = l.length := by show l.toArray.size = l.length; simp
theorem mk_app (a b : List UInt8) : mkB a ++ mkB b = mkB (a ++ b) := ByteArray.ext (by rw [ByteArray.data_append]; simp [mkB])
theorem pc_len (l : List Nat) (hl : ∀ x ∈ l, x ≤ 4096) (k : Nat) (hk : k ≤ l.length) : (Kt.pcT (l.take k)).length ≤ 6 * k := by
  rw [← pieces_pc l k hk]
  exact pieces_len l k (fun t => by
    rw [List.getD_eq_getElem?_getD]
    by_cases h : t < l.length
    · rw [List.getElem?_eq_getElem h]; exact hl _ (List.getElem_mem h)
    · rw [List.getElem?_eq_none (by omega)]; exact Nat.zero_le _)
theorem dec_len (n : Nat) (h : n ≤ 4096) : (Lib.decDigits n).length ≤ 4 := by
  have := itoa_len (n : Int) (by omega) (by omega)
  rwa [Lib.itoa_nonneg] at this
set_option maxRecDepth 100000 in
set_option maxHeartbeats 1000000 in
theorem rtext_bad (sz : Int) (A : Option Addr) (c : Nat) (ws : List Nat) (w : World) (h : Words w w.heap.size A ws) (hl : ws.length ≤ 140737488351232) (hv : Kb.validB sz ws = false) :
    Calls Tryd.prog 50 #[setV sz A ws.length c] w fun e w' => e = .returned (.string ⟨#[]⟩) ∧ Below w.heap.size w w' := by
  have hb := fun W (hW : Words W W.heap.size A ws) => rvalid_any sz A c ws W hW hl
  rw [hv] at hb
  have HB := Lib.hid hb
  unfold setV at HB ⊢
  clear hb
  go_enter Tryd.func50, Tryd.ntmps50
  go_wp2_with fail
  have hX := h.alloc (Nat.le_refl _) (.cells #[.int .i64 sz, .slice A ws.length c] 46)
  refine (HB.out _ (hX.more (by simp))).mono ?_
  rintro e w1 ⟨rfl, hb⟩
  have hB : Below w.heap.size w w1 := ((Below.refl _ _).alloc (Nat.le_refl _) _).trans (hb.mono (by simp))
  go_wp2_with fail
  go_ret
  exact ⟨rfl, hB⟩
set_option maxRecDepth 100000 in
set_option maxHeartbeats 1000000 in
theorem rtext_ok (n : Nat) (A : Option Addr) (c : Nat) (ws : List Nat) (w : World) (h : Words w w.heap.size A ws) (hl : ws.length ≤ 140737488351232) (hn : n ≤ 4096) (hv : Kb.validB n ws = true) :
    Calls Tryd.prog 50 #[setV n A ws.length c] w fun e w' => e = .returned (.string (mkB (Kt.txt n (memL n ws)))) ∧ Below w.heap.size w w' := by
  have hb := fun W (hW : Words W W.heap.size A ws) => rvalid_any n A c ws W hW hl
  rw [hv] at hb
  have HB := Lib.hid hb
  have HM := Lib.hid (fun W (hW : Words W W.heap.size A ws) => rmembers_any n A c ws W hW hl)
  unfold setV at HB ⊢
  clear hb hv
  have hle := memL_le n ws
  revert HM hle
  generalize memL n ws = L
  intro HM hle
  obtain ⟨hL1, hL2⟩ := hle
  go_enter Tryd.func50, Tryd.ntmps50
  go_wp2_with fail
  have hX := h.alloc (Nat.le_refl _) (.cells #[.int .i64 (n : Int), .slice A ws.length c] 46)
  refine (HB.out _ (hX.more (by simp))).mono ?_
  rintro e w1 ⟨rfl, hb⟩
  have t1 : Two w1 w.heap.size (.int .i64 (n : Int)) (.slice A ws.length c) := (Two.new_ _ _ _ _).below hb (by simp)
  have hB : Below w.heap.size w w1 := ((Below.refl _ _).alloc (Nat.le_refl _) _).trans (hb.mono (by simp))
  have hW1 : Words w1 w1.heap.size A ws := (h.below hB).more hB.size
  have c0 := t1.c0
  have c1 := t1.c1
  clear hX hb HB
  go_wp2_with fail
  refine (HM.out _ hW1).mono ?_
  unfold MemRes
  rw [zL_length]
  rintro e w2 ⟨A', c', rfl, hI, hb⟩
  have t2 := t1.below hb t1.lt
  have hB2 : Below w.heap.size w w2 := hB.trans (hb.mono hB.size)
  clear c0 c1 t1 hB hW1 hb HM
  go_wp2_with fail
  go_loopw [3, 5] (fun sv kv wr => ∃ (k q : Nat) (S : ByteArray), k ≤ L.length ∧ kv = .int .i64 (k : Int) ∧ sv = .string S ∧ wr = w2.drewN q ∧ Hid (S = mkB (123 :: Kt.pcT (L.take k)))) (fun _ kv _ => L.length - (intOf kv).toNat)
  case atStart => exact ⟨0, 0, ⟨#[123]⟩, Nat.zero_le _, rfl, rfl, rfl, Lib.hid rfl⟩
  case round =>
    obtain ⟨k, q, S, hk, rfl, rfl, rfl, HS⟩ := hrel
    have hs1 : S.size ≤ 30000 := by
      rw [HS.out, mk_size, List.length_cons]
      have := pc_len L hL2 k hk
      omega
    by_cases hlt : k < L.length
    · have hltI : (k : Int) < (L.length : Int) := by omega
      obtain ⟨b, off, x, rfl, hbb, hc, hx⟩ := (hI.below (bDrew (Below.refl _ _) q)).at_ (k := k) (by rw [zL_length]; exact hlt)
      obtain ⟨y, hy, hy2, hyx⟩ : ∃ y : Nat, L[k] = y ∧ y ≤ 4096 ∧ x = (y : Int) := ⟨L[k], rfl, hL2 _ (List.getElem_mem hlt), by
        rw [hx.out.1]
        unfold zL
        rw [List.getD_eq_getElem?_getD, List.getElem?_map, List.getElem?_eq_getElem hlt]; rfl⟩
      subst hyx
      have hst : Kt.pcT (L.take (k + 1)) = Kt.pcT (L.take k) ++ (if k = 0 then [] else [44, 32]) ++ Lib.decDigits y := by
        rw [List.take_add_one, List.getElem?_eq_getElem hlt, hy]
        show Kt.pcT (L.take k ++ [y]) = _
        rw [Kt.pc_snoc, List.length_take, Nat.min_eq_left (by omega)]
      have hdl := dec_len y hy2
      have hd2 : (mkB (Lib.decDigits y)).size ≤ 4 := by rw [mk_size]; exact hdl
      have hdig := fun W => digits_any y hy2 W
      have HD : Hid (∀ W, Calls Tryd.prog 95 #[.int .i64 (y : Int)] W fun e w' => e = .returned (.string (mkB (Lib.decDigits y))) ∧ ∃ q, w' = W.drewN q) := Lib.hid hdig
      by_cases h0 : 0 < k
      · have h0I : (0 : Int) < (k : Int) := by omega
        rw [if_neg (by omega)] at hst
        have HST : Hid (S ++ ⟨#[44, 32]⟩ ++ mkB (Lib.decDigits y) = mkB (123 :: Kt.pcT (L.take (k + 1)))) := Lib.hid (by
          rw [HS.out, hst, show (⟨#[44, 32]⟩ : ByteArray) = mkB [44, 32] from rfl, mk_app, mk_app]; simp)
        clear hst HS hx hdig hdl hy
        revert HD HST hd2
        generalize mkB (Lib.decDigits y) = Y
        intro hd2 HD HST
        go_wp2_with fail
        refine (HD.out _).mono ?_
        rintro e w3 ⟨rfl, q2, rfl⟩
        go_wp2_with fail
        go_roundw
        case rel => exact ⟨k + 1, q + q2, _, by omega, by go_num, rfl, rfl, HST⟩
        case measure => simp [intOf]; omega
      · have h0I : ¬ (0 : Int) < (k : Int) := by omega
        rw [if_pos (by omega)] at hst
        have HST : Hid (S ++ mkB (Lib.decDigits y) = mkB (123 :: Kt.pcT (L.take (k + 1)))) := Lib.hid (by
          rw [HS.out, hst, mk_app]; simp)
        clear hst HS hx hdig hdl hy
        revert HD HST hd2
        generalize mkB (Lib.decDigits y) = Y
        intro hd2 HD HST
        go_wp2_with fail
        refine (HD.out _).mono ?_
        rintro e w3 ⟨rfl, q2, rfl⟩
        go_wp2_with fail
        go_roundw
        case rel => exact ⟨k + 1, q + q2, _, by omega, by go_num, rfl, rfl, HST⟩
        case measure => simp [intOf]; omega
    · obtain rfl : k = L.length := by omega
      have hdl := dec_len n hn
      have hd2 : (mkB (Lib.decDigits n)).size ≤ 4 := by rw [mk_size]; exact hdl
      have HD : Hid (∀ W, Calls Tryd.prog 95 #[.int .i64 (n : Int)] W fun e w' => e = .returned (.string (mkB (Lib.decDigits n))) ∧ ∃ q, w' = W.drewN q) := Lib.hid (fun W => digits_any n hn W)
      have HST : Hid (S ++ ⟨#[125, 47]⟩ ++ mkB (Lib.decDigits n) = mkB (Kt.txt n L)) := Lib.hid (by
        rw [HS.out, List.take_length, show (⟨#[125, 47]⟩ : ByteArray) = mkB [125, 47] from rfl, mk_app, mk_app]
        unfold Kt.txt
        simp)
      have c0 : (w2.drewN q).cell? ⟨w.heap.size, 0, none⟩ = some (.int .i64 (n : Int)) := t2.c0
      clear HS hdl
      revert HD HST hd2
      generalize mkB (Lib.decDigits n) = Y
      intro hd2 HD HST
      go_wp2_with fail
      refine (HD.out _).mono ?_
      rintro e w3 ⟨rfl, q2, rfl⟩
      go_wp2_with fail
      go_ret
      exact ⟨by rw [← HST.out]; rfl, bDrew hB2 _⟩
end Go.Proofs.YtckenemkfegopaaDoor
