/- Walks: All. -/
import Derived.Test.YtdfkgkgglldokaaWh
namespace Go.Proofs.Ytdfkgkgglldokaa
open Go.RowKit Go.Maps
set_option linter.unusedVariables false

theorem infoSl : (Try.prog.info? 22).map (fun i => (i.zero, i.size, i.bytes)) = some (some (.slice none 0 0), 1, 24) := by kernel_rfl
/-- lists as values, each in a block of its own -/
def sv (n : Nat) (es : List (Nat × Nat)) : List Value := es.map fun p => .slice (some ⟨p.1, 0, none⟩) n p.2
theorem sv_snoc (n : Nat) (es : List (Nat × Nat)) (g c : Nat) : sv n (es ++ [(g, c)]) = sv n es ++ [.slice (some ⟨g, 0, none⟩) n c] := by simp [sv]
theorem sv_length (n : Nat) (es : List (Nat × Nat)) : (sv n es).length = es.length := by simp [sv]

/-- the world of All: a row of lists, of its own -/
structure AlInv (G : List (List Nat)) (n : Nat) (w wr : World) (v : Value) (es : List (Nat × Nat)) : Prop where
  own : wr.ownsRow w.heap.size 22 1 v es.length (sv n es)
  el : ∀ i g c, es[i]? = some (g, c) → IBlk wr g (Kp.zN (G.getD i [])) ∧ w.heap.size ≤ g ∧ n ≤ c
  bel : Below w.heap.size w wr

theorem own_ne {w : World} {base n g : Nat} {v : Value} {xs : List Value} {ws : List Int} (h : w.ownsRow base 22 1 v n xs) (hg : IBlk w g ws) : some g ≠ v.ownBlock := by
  intro e
  rcases h.2 with ⟨rfl, _⟩ | ⟨g', cap, cur, rfl, _, h', _⟩
  · simp [Value.ownBlock] at e
  · simp only [Value.ownBlock, Option.some.injEq] at e
    subst e
    unfold IBlk at hg
    rw [h'] at hg
    simp at hg
theorem AlInv.nil (G : List (List Nat)) (n : Nat) (w : World) : AlInv G n w w (.slice none 0 0) [] := ⟨World.ownsRow_nil _ _ _ _, fun i g c h => by simp at h, Below.refl _ _⟩
theorem AlInv.below {G : List (List Nat)} {n : Nat} {w wr wx : World} {v : Value} {es : List (Nat × Nat)} (h : AlInv G n w wr v es) (hb : Below wr.heap.size wr wx) : AlInv G n w wx v es :=
  ⟨own_below h.own hb, fun i g c e => ⟨(h.el i g c e).1.below hb (h.el i g c e).1.lt, (h.el i g c e).2⟩, h.bel.trans (hb.mono h.bel.size)⟩
theorem AlInv.snoc {G : List (List Nat)} {n : Nat} {w wr w3 : World} {v v' : Value} {es : List (Nat × Nat)} {g c : Nat} {o : Obj} (h : AlInv G n w wr v es)
    (hg : IBlk wr g (Kp.zN (G.getD es.length []))) (hgb : w.heap.size ≤ g) (hc : n ≤ c)
    (ho : w3.ownsRow w.heap.size 22 1 v' (es.length + 1) (sv n es ++ [.slice (some ⟨g, 0, none⟩) n c])) (hgr : (wr.alloc o).grownBy w3 v.ownBlock) : AlInv G n w w3 v' (es ++ [(g, c)]) where
  own := by rw [sv_snoc, List.length_append]; exact ho
  el := by
    intro i g' c' e
    rw [List.getElem?_append] at e
    split at e
    · obtain ⟨h1, h2⟩ := h.el i g' c' e
      exact ⟨(h1.alloc o).grown hgr (own_ne h.own h1), h2⟩
    · rename_i hi
      have hie : i = es.length := by
        rcases Nat.lt_or_ge (i - es.length) 1 with h1 | h1
        · omega
        · rw [List.getElem?_eq_none (by simpa using h1)] at e; simp at e
      subst hie
      simp at e
      obtain ⟨rfl, rfl⟩ := e
      exact ⟨(hg.alloc o).grown hgr (own_ne h.own hg), hgb, hc⟩
  bel := (h.bel.alloc h.bel.size o).grown hgr (by have := h.bel.size; simp; omega) (fun k e => (h.own.lt k e).1)
theorem AlInv.cur {G : List (List Nat)} {n : Nat} {w wr w3 : World} {v : Value} {es : List (Nat × Nat)} {g : Nat} {ws : List Int} {o : Obj} (h : AlInv G n w wr v es)
    (hg : IBlk wr g ws) (hgr : (wr.alloc o).grownBy w3 v.ownBlock) : IBlk w3 g ws := (hg.alloc o).grown hgr (own_ne h.own hg)
theorem zN_wide {ws : List Nat} (hr : Kp.rgs 0 ws = true) (hl : ws.length ≤ 1000) : ∀ x ∈ Kp.zN ws, -9223372036854775808 ≤ x ∧ x ≤ 9223372036854775807 := by
  intro x hx
  obtain ⟨y, hy, rfl⟩ := List.mem_map.1 hx
  have := Kp.rgs_bd ws 0 hr y hy
  have e : Int.ofNat y = (y : Int) := rfl
  rw [e]; omega
/-- the length of a slice -/
def slLen : Value → Nat
  | .slice _ n _ => n
  | _ => 0

set_option maxRecDepth 100000 in
set_option maxHeartbeats 400000 in
theorem all_neg (n : Int) (hn : n < 0) (w : World) : Calls Try.prog 36 #[.int .i64 n] w fun e w' => e = .returned (.tuple #[.slice none 0 0, .int .i64 1]) ∧ w = w' := by
  go_enter Try.func36, Try.ntmps36
  go_wp2_with fail
  go_ret2
  exact ⟨rfl, rfl⟩
set_option maxRecDepth 100000 in
set_option maxHeartbeats 400000 in
theorem all_big (n : Int) (hn : 8 < n) (w : World) : Calls Try.prog 36 #[.int .i64 n] w fun e w' => e = .returned (.tuple #[.slice none 0 0, .int .i64 4]) ∧ w = w' := by
  have h0 : ¬ n < 0 := by omega
  go_enter Try.func36, Try.ntmps36
  go_wp2_with fail
  go_ret2
  exact ⟨rfl, rfl⟩

set_option maxRecDepth 100000 in
set_option maxHeartbeats 4000000 in
theorem all_ok (n : Nat) (hn : n ≤ 8) (w : World) : Calls Try.prog 36 #[.int .i64 (n : Int)] w fun e w' =>
    ∃ A c es, e = .returned (.tuple #[.slice A es.length c, .int .i64 0]) ∧ es.length = Kp.bell n ∧ AlInv (Kp.gen n 0) n w w' (.slice A es.length c) es := by
  obtain ⟨i0, hi, hz0, hz1, hz2⟩ := info_parts infoSl
  have hlen := Kp.gen_length hn
  obtain ⟨N, hN⟩ : ∃ N, Hid (Kp.bell n = N) := ⟨_, Lib.hid rfl⟩
  have hNb : N ≤ 4140 := by
    rw [← hN.out]
    have : ∀ m, m ≤ 8 → Kp.bell m ≤ 4140 := by decide
    exact this n hn
  rw [hN.out] at hlen
  have h0 := Lib.hid (Kp.gen_first hn)
  have hstep := Lib.hid (Kp.chk_step (Kp.gen_chk hn))
  have hlast := Lib.hid (Kp.chk_last (Kp.gen_chk hn))
  have hat := Lib.hid (fun k => Kp.gen_at (n := n) (k := k))
  rw [hN.out]
  generalize Kp.gen n 0 = G at *
  have hN0 : 0 < N := by rw [← hlen]; exact hlast.out.1
  have HL := Lib.hid hlen
  have hsuc : ∀ k, k < N → ∀ g c W, IBlk W g (Kp.zN (G.getD k [])) → n ≤ c → Calls Try.prog 41 #[.slice (some ⟨g, 0, none⟩) n c] W (SucRes (Kp.suc (G.getD k [])) W) := by
    intro k hk g c W hI hc
    have h1 := hat.out k (by rw [HL.out]; exact hk)
    have := suc_any (some ⟨g, 0, none⟩) c (G.getD k []) W (hI.ints hI.lt (zN_wide h1.2 (by rw [h1.1]; omega))) h1.2 (by rw [h1.1]; omega) (by rw [h1.1]; exact hc)
    rw [h1.1] at this
    exact this
  have HS := Lib.hid hsuc
  have hmk := makeInts n (by omega)
  have hn0 : ¬ (n : Int) < 0 := by omega
  have hn8 : ¬ (8 : Int) < (n : Int) := by omega
  clear hsuc hlen
  go_enter Try.func36, Try.ntmps36
  go_wp2_with fail
  have I0 : AlInv G n w (w.alloc (.cells (zcells (List.replicate n 0)) 3)) (.slice none 0 0) [] := (AlInv.nil G n w).below ((Below.refl _ _).alloc (Nat.le_refl _) _)
  have P0 : IBlk (w.alloc (.cells (zcells (List.replicate n 0)) 3)) w.heap.size (Kp.zN (G.getD 0 [])) := by rw [h0.out, Kp.zN_rep]; exact IBlk.new_ _ _
  clear hmk
  go_loopw [4, 5, 6] (fun v pv mv wr => ∃ es, AlInv G n w wr v es ∧ ((∃ g c, mv = .bool true ∧ pv = .slice (some ⟨g, 0, none⟩) n c ∧ n ≤ c ∧ es.length < N ∧ IBlk wr g (Kp.zN (G.getD es.length [])) ∧ w.heap.size ≤ g) ∨ (mv = .bool false ∧ es.length = N))) (fun v _ _ _ => N - slLen v)
  case atStart => exact ⟨[], I0, Or.inl ⟨w.heap.size, n, rfl, rfl, Nat.le_refl _, hN0, P0, Nat.le_refl _⟩⟩
  case round =>
    obtain ⟨es, I, H⟩ := hrel
    clear I0 P0
    rcases H with ⟨g, c, rfl, rfl, hc, hlt, hP, hg⟩ | ⟨rfl, hk⟩
    · obtain ⟨A', c', rfl⟩ := own_slice I.own
      have ho := I.own
      obtain ⟨k, hk⟩ : ∃ k, Hid (es.length = k) := ⟨_, Lib.hid rfl⟩
      obtain ⟨S, hS⟩ : ∃ S, Hid (sv n es = S) := ⟨_, Lib.hid rfl⟩
      rw [hk.out, hS.out] at ho
      rw [hk.out] at hlt
      rw [hk.out]
      go_wp2_with (at_builtin; refine wpList_append_own _ rfl _ _ 40 rfl w.heap.size 22 i0 (.slice none 0 0) 1 24 Try.underlying40 hi hz0 hz1 hz2 rfl (by decide) _ _ _ rfl (ho.alloc _) ⟨wr.heap.size, 0, none⟩ 1 1 [.slice (some ⟨g, 0, none⟩) n c] rfl rfl ?c1 ?c2 ?c3 ?c4 ?c5 ?_)
      case c1 => exact cell_one_new _ _ _
      case c2 => intro u hu; simp at hu; subst hu; rfl
      case c3 => unfold maxLen; omega
      case c4 => omega
      case c5 => have := I.bel.size; simp; omega
      intro v' w3 hown' hgrow _
      rw [← hk.out] at hgrow
      have P3 := I.cur hP hgrow
      have I3 := I.snoc hP hg hc (by rw [hk.out, hS.out]; exact hown') hgrow
      rw [hk.out] at P3
      obtain ⟨A3, c3, rfl⟩ := own_slice hown'
      clear hown' hgrow I ho hP
      go_wp2_with fail
      refine (HS.out k hlt g c _ P3 hc).mono ?_
      by_cases hl : k + 1 < N
      · rw [(hstep.out k (by rw [HL.out]; exact hl)).1]
        rintro e w4 ⟨m, g4, c4, rfl, hI4, hg4, hc4⟩
        have hq := (hat.out (k + 1) (by rw [HL.out]; exact hl)).1
        rw [hq] at hc4 
        rw [hq]
        have I4 := I3.below m
        have hg5 : w.heap.size ≤ g4 := Nat.le_trans I3.bel.size hg4
        clear I3 m P3
        go_wp2_with fail
        go_roundw
        case rel => exact ⟨es ++ [(g, c)], I4, Or.inl ⟨g4, c4, rfl, rfl, hc4, by rw [List.length_append, hk.out]; exact hl, by rw [List.length_append, hk.out]; exact hI4, hg5⟩⟩
        case measure => simp [slLen]; omega
      · have hkl : k = N - 1 := by omega
        have hno : Kp.suc (G.getD k []) = none := by
          have h1 := hlast.out.2
          rw [HL.out, ← hkl] at h1
          exact h1
        rw [hno]
        have HKL := Lib.hid hkl
        clear hkl hno hl
        rintro e w4 ⟨m, rfl⟩
        have I4 := I3.below m
        clear I3 m P3
        go_wp2_with fail
        go_roundw
        case rel => exact ⟨es ++ [(g, c)], I4, Or.inr ⟨rfl, by have := HKL.out; rw [List.length_append, hk.out]; simp; omega⟩⟩
        case measure => simp [slLen]; omega
    · obtain ⟨A', c', rfl⟩ := own_slice I.own
      go_wp2_with fail
      refine bodyPost_ret (v := .tuple #[.slice A' es.length c', .int .i64 0]) (by simp [results, Try.results36, go_sem]) rfl ?_
      exact ⟨A', c', es, rfl, hk, I⟩
end Go.Proofs.Ytdfkgkgglldokaa
