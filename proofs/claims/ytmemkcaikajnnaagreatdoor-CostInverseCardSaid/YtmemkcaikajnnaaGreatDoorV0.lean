/- What Parse of package cost makes of a text that was printed, in whatever order of the entries. -/
import Derived.Test.YtmemkcaikajnnaaGreatDoorT5
namespace Go.Proofs.YtmemkcaikajnnaaGreatDoor
set_option linter.unusedVariables false
namespace Kp
/-- pieces with a comma between two of them, x before it, y behind it -/
def tx (x y : List UInt8) : List (List UInt8) → List UInt8
  | [] => []
  | [p] => p
  | p :: q :: L => p ++ (x ++ 44 :: (y ++ tx x y (q :: L)))
theorem join_tx (x y : List UInt8) : ∀ L : List (List UInt8), Lib.join L (x ++ 44 :: y) = tx x y L
  | [] => rfl
  | [p] => Lib.join_one _ _
  | p :: q :: L => by
    rw [Lib.join_cons]
    have ih := join_tx x y (q :: L)
    rw [Lib.join_cons] at ih
    show _ = p ++ (x ++ 44 :: (y ++ tx x y (q :: L)))
    rw [← ih]
    unfold Lib.joinTail
    simp
/-- all of it is space -/
def Sp (x : List UInt8) : Prop := ∀ c ∈ x, c = 32
/-- a piece: no comma, no space at its ends -/
structure Pc (p : List UInt8) : Prop where
  ne : p ≠ []
  hd : p.head? ≠ some 32
  lst : p.getLast? ≠ some 32
  cm : ∀ c ∈ p, c ≠ 44
theorem dw_spaces {x p : List UInt8} (hx : Sp x) (hp : p.head? ≠ some 32) : (x ++ p).dropWhile (· == 32) = p := by
  induction x with
  | nil =>
    cases p with
    | nil => rfl
    | cons c p =>
      have hc : c ≠ 32 := fun e => hp (by rw [e]; rfl)
      show (c :: p).dropWhile _ = _
      rw [List.dropWhile_cons_of_neg (by simpa using hc)]
  | cons c x ih =>
    have hc : c = 32 := hx c List.mem_cons_self
    subst hc
    show ((32 : UInt8) :: (x ++ p)).dropWhile _ = _
    rw [List.dropWhile_cons_of_pos (by decide)]
    exact ih fun d hd => hx d (List.mem_cons_of_mem _ hd)
theorem trim_piece {a p b : List UInt8} (ha : Sp a) (hb : Sp b) (hp : Pc p) : Lib.trimB (a ++ (p ++ b)) 32 = p := by
  unfold Lib.trimB Lib.trimRightB Lib.trimLeftB
  have h1 : (a ++ (p ++ b)).reverse.dropWhile (· == 32) = p.reverse ++ a.reverse := by
    rw [List.reverse_append, List.reverse_append, List.append_assoc]
    refine dw_spaces (fun c hc => hb c (List.mem_reverse.1 hc)) ?_
    rw [List.head?_append, List.head?_reverse]
    cases h : p.getLast? with
    | none => exact absurd (List.getLast?_eq_none_iff.1 h) hp.ne
    | some c => rw [← h]; cases h2 : p.getLast? with
      | none => exact absurd (List.getLast?_eq_none_iff.1 h2) hp.ne
      | some d => have := hp.lst; rw [h2] at this; simpa using this
  rw [h1, List.reverse_append, List.reverse_reverse, List.reverse_reverse]
  exact dw_spaces ha hp.hd
/-- the parts of such a text, trimmed -/
theorem parts_tx {x y : List UInt8} (hx : Sp x) (hy : Sp y) : ∀ (L : List (List UInt8)) (a : List UInt8), L ≠ [] → Sp a → (∀ p ∈ L, Pc p) → (parts (a ++ tx x y L)).map (fun p => Lib.trimB p 32) = L := by
  have spc : ∀ z : List UInt8, Sp z → ∀ c ∈ z, c ≠ 44 := fun z hz c hc e => by have := hz c hc; rw [e] at this; exact absurd this (by decide)
  intro L
  induction L with
  | nil => intro a h; exact absurd rfl h
  | cons p L ih =>
    intro a _ ha hL
    have hp := hL p List.mem_cons_self
    cases L with
    | nil =>
      show (parts (a ++ p)).map _ = _
      rw [parts_no]
      · have := trim_piece ha (b := []) (fun c hc => by cases hc) hp
        rw [List.append_nil] at this
        simp [this]
      · intro j hj
        have := List.mem_of_getElem? hj
        rcases List.mem_append.1 this with h | h
        · exact spc a ha _ h rfl
        · exact hp.cm _ h rfl
    | cons q L =>
      have e : a ++ tx x y (p :: q :: L) = (a ++ (p ++ x)) ++ 44 :: (y ++ tx x y (q :: L)) := by
        show a ++ (p ++ (x ++ 44 :: (y ++ tx x y (q :: L)))) = _
        simp
      rw [e, parts_at (k := (a ++ (p ++ x)).length)]
      · rw [List.take_left, List.map_cons, trim_piece ha hx hp]
        congr 1
        have hd : ((a ++ (p ++ x)) ++ 44 :: (y ++ tx x y (q :: L))).drop ((a ++ (p ++ x)).length + 1) = y ++ tx x y (q :: L) := by
          rw [← List.drop_drop, List.drop_left]; rfl
        rw [hd]
        exact ih y (by simp) hy fun r hr => hL r (List.mem_cons_of_mem _ hr)
      · intro j hj h
        rw [List.getElem?_append_left hj] at h
        have := List.mem_of_getElem? h
        rcases List.mem_append.1 this with h | h
        · exact spc a ha _ h rfl
        · rcases List.mem_append.1 h with h | h
          · exact hp.cm _ h rfl
          · exact spc x hx _ h rfl
      · rw [List.getElem?_append_right (Nat.le_refl _), Nat.sub_self]; rfl
/-- the run over trimmed parts -/
def runT : List Int → List Bool → List (List UInt8) → Int × List Int
  | l, _, [] => (0, l)
  | l, m, p :: ps => if (stepS l m p).1 = 0 then runT (stepS l m p).2.1 (stepS l m p).2.2 ps else ((stepS l m p).1, zeros)
theorem runS_T : ∀ (ps : List (List UInt8)) (l : List Int) (m : List Bool), runS l m ps = runT l m (ps.map fun p => Lib.trimB p 32) := by
  intro ps
  induction ps with
  | nil => intro l m; rfl
  | cons p ps ih =>
    intro l m
    rw [List.map_cons]
    unfold runS runT
    rw [ih]
/-- the text of an entry as bytes -/
def pcs (c : C) (k : Nat) : List UInt8 := names.getD k [] ++ [32] ++ Lib.itoa (c.list.getD k 0)
def pcB (k : Nat) (v : Nat) : List UInt8 := names.getD k [] ++ [32] ++ Lib.itoa (v : Int)
def chkB (k v : Nat) : Bool := pOk (pcB k v) && idx (word (pcB k v)) == some k && valN (num (pcB k v)) == v && !(pcB k v).isEmpty && (pcB k v).head? != some 32 && (pcB k v).getLast? != some 32 && (pcB k v).all (fun c => c != 44) && decide ((pcB k v).length ≤ 20)
set_option maxRecDepth 100000 in
theorem chk_all : ∀ k : Fin 13, ∀ v : Fin 101, chkB k.val v.val = true := by decide +kernel
structure PcF (k v : Nat) (p : List UInt8) : Prop where
  ok : pOk p = true
  ix : idx (word p) = some k
  nu : valN (num p) = v
  pc : Pc p
  ln : p.length ≤ 20
theorem pc_of {k v : Nat} (hk : k < 13) (hv : v ≤ 100) : PcF k v (pcB k v) := by
  have h := chk_all ⟨k, hk⟩ ⟨v, by omega⟩
  unfold chkB at h
  simp only [Bool.and_eq_true, beq_iff_eq, bne_iff_ne, List.all_eq_true, Bool.not_eq_true', decide_eq_true_eq] at h
  obtain ⟨⟨⟨⟨⟨⟨⟨h1, h2⟩, h3⟩, h4⟩, h5⟩, h6⟩, h7⟩, h8⟩ := h
  exact ⟨h1, h2, h3, ⟨fun e => by rw [e] at h4; exact absurd h4 (by decide), h5, h6, h7⟩, h8⟩
theorem pcs_of {c : C} (hc : c.ok = true) {k : Nat} (hk : k < 13) : ∃ v : Nat, v ≤ 100 ∧ c.list.getD k 0 = (v : Int) ∧ PcF k v (pcs c k) := by
  have hb := C.ok_get hc (x := c.list.getD k 0) (by rw [List.getD_eq_getElem?_getD, List.getElem?_eq_getElem (by rw [C.len]; exact hk)]; exact List.getElem_mem _)
  refine ⟨(c.list.getD k 0).toNat, by omega, by omega, ?_⟩
  have e : pcs c k = pcB k (c.list.getD k 0).toNat := by
    unfold pcs pcB
    rw [show (((c.list.getD k 0).toNat : Nat) : Int) = c.list.getD k 0 by omega]
  rw [e]
  exact pc_of hk (by omega)
theorem step_pc {c : C} (hc : c.ok = true) {k : Nat} (hk : k < 13) {l : List Int} {m : List Bool} (hm : m.getD k false = false) : stepS l m (pcs c k) = (0, l.set k (c.list.getD k 0), m.set k true) := by
  obtain ⟨v, hv, e, f⟩ := pcs_of hc hk
  unfold stepS
  rw [if_neg (by rw [f.ok]; decide), f.ix]
  dsimp only
  rw [if_neg (by rw [hm]; decide), f.nu, if_neg (by omega), e]
/-- the entries of an order, each once, are written -/
theorem runT_ks {c : C} (hc : c.ok = true) : ∀ (ks : List Nat) (l : List Int) (m : List Bool), (∀ k ∈ ks, k < 13) → ks.Nodup → (∀ k ∈ ks, m.getD k false = false) → runT l m (ks.map (pcs c)) = (0, ks.foldl (fun l k => l.set k (c.list.getD k 0)) l) := by
  intro ks
  induction ks with
  | nil => intro l m _ _ _; rfl
  | cons k ks ih =>
    intro l m hk hn hm
    rw [List.map_cons, List.foldl_cons]
    unfold runT
    rw [step_pc hc (hk k List.mem_cons_self) (hm k List.mem_cons_self), if_pos rfl]
    rw [List.nodup_cons] at hn
    refine ih _ _ (fun j hj => hk j (List.mem_cons_of_mem _ hj)) hn.2 (fun j hj => ?_)
    have hne : k ≠ j := fun e => hn.1 (e ▸ hj)
    have := hm j (List.mem_cons_of_mem _ hj)
    rw [List.getD_eq_getElem?_getD] at this ⊢
    rw [List.getElem?_set_ne hne]
    exact this
theorem fold_len (f : Nat → Int) : ∀ (ks : List Nat) (l : List Int), (ks.foldl (fun l k => l.set k (f k)) l).length = l.length := by
  intro ks
  induction ks with
  | nil => intro l; rfl
  | cons k ks ih => intro l; rw [List.foldl_cons, ih, List.length_set]
theorem fold_at (f : Nat → Int) : ∀ (ks : List Nat) (l : List Int) (j : Nat), j < l.length → (ks.foldl (fun l k => l.set k (f k)) l)[j]? = if j ∈ ks then some (f j) else l[j]? := by
  intro ks
  induction ks with
  | nil => intro l j _; simp
  | cons k ks ih =>
    intro l j hj
    rw [List.foldl_cons, ih _ _ (by rw [List.length_set]; exact hj)]
    by_cases h1 : j ∈ ks
    · rw [if_pos h1, if_pos (List.mem_cons_of_mem _ h1)]
    · rw [if_neg h1]
      by_cases h2 : j = k
      · subst h2; rw [List.getElem?_set_self hj, if_pos List.mem_cons_self]
      · rw [List.getElem?_set_ne (Ne.symm h2), if_neg (fun h => (List.mem_cons.1 h).elim h2 h1)]
theorem fold_all (c : C) {ks : List Nat} (h : ∀ j, j < 13 → j ∈ ks) : ks.foldl (fun l k => l.set k (c.list.getD k 0)) zeros = c.list := by
  apply List.ext_getElem?
  intro j
  rcases Nat.lt_or_ge j 13 with hj | hj
  · rw [fold_at (fun k => c.list.getD k 0) ks zeros j hj, if_pos (h j hj), List.getD_eq_getElem?_getD, List.getElem?_eq_getElem (by rw [C.len]; exact hj)]
    rfl
  · rw [List.getElem?_eq_none (by rw [fold_len (fun k => c.list.getD k 0)]; exact hj), List.getElem?_eq_none (by rw [C.len]; exact hj)]
theorem tx_ne {x y : List UInt8} : ∀ {L : List (List UInt8)}, L ≠ [] → (∀ p ∈ L, Pc p) → tx x y L ≠ [] := by
  intro L h hL
  cases L with
  | nil => exact absurd rfl h
  | cons p L =>
    have hp := (hL p List.mem_cons_self).ne
    cases L with
    | nil => exact hp
    | cons q L => intro e; exact hp (List.append_eq_nil_iff.1 e).1
theorem tx_ends {x y : List UInt8} : ∀ (L : List (List UInt8)), L ≠ [] → (∀ p ∈ L, Pc p) → (tx x y L).head? ≠ some 32 ∧ (tx x y L).getLast? ≠ some 32 := by
  intro L
  induction L with
  | nil => intro h; exact absurd rfl h
  | cons p L ih =>
    intro _ hL
    have hp := hL p List.mem_cons_self
    cases L with
    | nil => exact ⟨hp.hd, hp.lst⟩
    | cons q L =>
      have hq := ih (by simp) fun r hr => hL r (List.mem_cons_of_mem _ hr)
      have hne := tx_ne (x := x) (y := y) (L := q :: L) (by simp) fun r hr => hL r (List.mem_cons_of_mem _ hr)
      constructor
      · show (p ++ _).head? ≠ _
        obtain ⟨a, p', rfl⟩ := List.exists_cons_of_ne_nil hp.ne
        exact hp.hd
      · have e : tx x y (p :: q :: L) = (p ++ (x ++ 44 :: y)) ++ tx x y (q :: L) := by
          show p ++ (x ++ 44 :: (y ++ tx x y (q :: L))) = _
          simp
        rw [e, List.getLast?_append]
        cases h : (tx x y (q :: L)).getLast? with
        | none => exact absurd (List.getLast?_eq_none_iff.1 h) hne
        | some d => have h3 := hq.2; rw [h] at h3; exact h3
theorem trim_tx {x y : List UInt8} {L : List (List UInt8)} (h : L ≠ []) (hL : ∀ p ∈ L, Pc p) : Lib.trimB (tx x y L) 32 ≠ [] := by
  obtain ⟨h1, h2⟩ := tx_ends (x := x) (y := y) L h hL
  have hne := tx_ne (x := x) (y := y) h hL
  have hd1 : (tx x y L).reverse.dropWhile (· == 32) = (tx x y L).reverse := by
    have := dw_spaces (x := []) (p := (tx x y L).reverse) (fun c hc => by cases hc) (by rw [List.head?_reverse]; exact h2)
    exact this
  have hd2 : (tx x y L).dropWhile (· == 32) = tx x y L := dw_spaces (x := []) (fun c hc => by cases hc) h1
  unfold Lib.trimB Lib.trimRightB Lib.trimLeftB
  rw [hd1, List.reverse_reverse, hd2]
  exact hne
theorem tx_len {x y : List UInt8} (hx : x.length ≤ 5) (hy : y.length ≤ 5) : ∀ (L : List (List UInt8)), (∀ p ∈ L, p.length ≤ 20) → (tx x y L).length ≤ 31 * L.length := by
  intro L
  induction L with
  | nil => intro _; exact Nat.zero_le _
  | cons p L ih =>
    intro hL
    have hp := hL p List.mem_cons_self
    cases L with
    | nil => show p.length ≤ 31 * 1; omega
    | cons q L =>
      have := ih fun r hr => hL r (List.mem_cons_of_mem _ hr)
      show (p ++ (x ++ 44 :: (y ++ tx x y (q :: L)))).length ≤ _
      simp only [List.length_append, List.length_cons] at this ⊢
      omega
/-- what was printed in whatever order is read as the model -/
theorem parse_tx {c : C} (hc : c.ok = true) {x y : List UInt8} (hx : Sp x) (hy : Sp y) (hx5 : x.length ≤ 5) (hy5 : y.length ≤ 5) {ks : List Nat} (h1 : ∀ k ∈ ks, k < 13) (h2 : ks.Nodup) (h3 : ∀ j, j < 13 → j ∈ ks) (h4 : ks.length ≤ 200) :
    parseS (tx x y (ks.map (pcs c))) = (0, c.list) := by
  have hne : ks.map (pcs c) ≠ [] := by
    have := h3 0 (by decide)
    intro e
    rw [List.map_eq_nil_iff] at e
    rw [e] at this
    cases this
  have hpc : ∀ p ∈ ks.map (pcs c), Pc p ∧ p.length ≤ 20 := by
    intro p hp
    obtain ⟨k, hk, rfl⟩ := List.mem_map.1 hp
    obtain ⟨v, _, _, f⟩ := pcs_of hc (h1 k hk)
    exact ⟨f.pc, f.ln⟩
  have hlen := tx_len hx5 hy5 (ks.map (pcs c)) fun p hp => (hpc p hp).2
  rw [List.length_map] at hlen
  unfold parseS
  rw [if_neg (by omega), if_neg (trim_tx hne fun p hp => (hpc p hp).1), runS_T]
  have hp := parts_tx hx hy (ks.map (pcs c)) [] hne (fun c hc => by cases hc) fun p hp => (hpc p hp).1
  rw [List.nil_append] at hp
  rw [hp, runT_ks hc ks zeros falses h1 h2 (fun k hk => by
    have := h1 k hk
    have hall : ∀ j : Fin 13, falses.getD j.val false = false := by decide
    exact hall ⟨k, this⟩), fold_all c h3]
/-- the printed text is read as the model -/
theorem parse_text {c : C} (hc : c.ok = true) : parseS (text c) = (0, c.list) := by
  have e : text c = tx [] [32] ((List.range 13).map (pcs c)) := by
    rw [← join_tx]
    unfold text pieces
    rw [List.map_map]
    rfl
  rw [e]
  exact parse_tx hc (fun c hc => by cases hc) (fun c hc => by simpa using hc) (by decide) (by decide) (fun k hk => List.mem_range.1 hk) List.nodup_range (fun j hj => List.mem_range.2 hj) (by decide)
end Kp
end Go.Proofs.YtmemkcaikajnnaaGreatDoor
