/- Walks: Index, Contains, Clone of numbers; few of the law; Canonical and Residual of package cnf. -/
import Derived.Test.YtdbboeknknlolaaW5
namespace Go.Proofs.Ytdbboeknknlolaa
open Go.RowKit Go.Sort
set_option linter.unusedVariables false

set_option maxRecDepth 100000 in
set_option maxHeartbeats 1000000 in
theorem index_any (zs : List Int) (x : Int) (A : Option Addr) (c : Nat) (w : World) (hz : Zs w w.heap.size A zs) (hl : zs.length ≤ 1000000) :
    Calls Try.prog 59 #[.slice A zs.length c, .int .i64 x] w fun e w' => (∃ z : Int, e = .returned (.int .i64 z) ∧ ((0 ≤ z) ↔ x ∈ zs) ∧ z ≤ 1000000 ∧ -1 ≤ z) ∧ Dr w w' := by
  have X := Dr.refl w
  have HX := Lib.hid (fun W (h : Dr w W) => hz.at h.bel)
  obtain ⟨n, hn⟩ : ∃ n, Hid (zs.length = n) := ⟨_, Lib.hid rfl⟩
  have H0 : Hid (x ∉ zs.take 0) := Lib.hid (by simp)
  rw [hn.out] at hl ⊢
  clear hz
  go_enter Try.func59, Try.ntmps59
  go_wp2_with fail
  go_loopw [5, 8] (fun v5 iv wr => ∃ i : Nat, i ≤ n ∧ iv = .int .i64 i ∧ Hid (x ∉ zs.take i) ∧ Dr w wr) (fun _ iv _ => n - (intOf iv).toNat)
  case atStart => exact ⟨0, Nat.zero_le _, rfl, H0, X⟩
  case round =>
    clear X H0
    obtain ⟨i, hi, rfl, hni, Y⟩ := hrel
    by_cases hlt : i < n
    · obtain ⟨b, off, y, rfl, hb, c0, hyi, ry⟩ := (HX.out _ Y).at_ (show i < zs.length by rw [hn.out]; exact hlt)
      by_cases hxy : x = y
      · have HM : Hid (x ∈ zs) := Lib.hid (by rw [hxy]; exact List.mem_of_getElem? hyi)
        subst hxy
        have q : (x == x) = true := by simp
        clear hni hyi ry
        go_wp2_with fail
        go_ret
        exact ⟨⟨(i : Int), rfl, ⟨fun _ => HM.out, fun _ => by omega⟩, by omega, by omega⟩, Y⟩
      · have HN : Hid (x ∉ zs.take (i + 1)) := Lib.hid (by
          obtain ⟨hil, hie⟩ := List.getElem?_eq_some_iff.1 hyi
          rw [List.take_succ_eq_append_getElem hil, List.mem_append, hie]
          rintro (h | h)
          · exact hni.out h
          · exact hxy (by simpa using h))
        have q : (x == y) = false := by simpa using hxy
        clear hni hyi ry hxy
        go_wp2_with fail
        go_roundw
        case rel => exact ⟨i + 1, by omega, by go_num, HN, Y⟩
        case measure => simp [intOf]; omega
    · obtain rfl : i = n := by omega
      have HN : Hid (x ∉ zs) := Lib.hid (by have := hni.out; rwa [List.take_of_length_le (by rw [hn.out]; exact Nat.le_refl _)] at this)
      clear hni HX
      go_wp2_with fail
      go_ret
      exact ⟨⟨-1, rfl, ⟨fun h => absurd h (by decide), fun h => absurd h HN.out⟩, by decide, by decide⟩, Y⟩
theorem contains_any (zs : List Int) (x : Int) (A : Option Addr) (c : Nat) (w : World) (hz : Zs w w.heap.size A zs) (hl : zs.length ≤ 1000000) :
    Calls Try.prog 43 #[.slice A zs.length c, .int .i64 x] w fun e w' => e = .returned (.bool (decide (x ∈ zs))) ∧ Dr w w' := by
  have HI := Lib.hid (index_any zs x A c w hz hl)
  obtain ⟨e, he⟩ : ∃ e, Hid (decide (x ∈ zs) = e) := ⟨_, Lib.hid rfl⟩
  rw [he.out]
  clear hz
  go_enter Try.func43, Try.ntmps43
  go_wp2_with fail
  refine HI.out.mono ?_
  rintro r w2 ⟨⟨z, rfl, hz1, hz2, hz3⟩, Y⟩
  have hq : decide ((0 : Int) ≤ z) = e := by rw [← he.out, decide_eq_decide]; exact hz1
  have HQ := Lib.hid hq
  clear hz1 HI he hq
  go_wp2_with fail
  go_ret
  exact ⟨ret_bool HQ.out, Y⟩
/-- a call hands back a row of its own -/
def NewO (zs : List Int) (w : World) (r : Ending) (w' : World) : Prop := ∃ A c, r = .returned (.slice A zs.length c) ∧ w'.ownsRow w.heap.size 3 1 (.slice A zs.length c) zs.length (zvals zs) ∧ Below w.heap.size w w'
set_option maxRecDepth 100000 in
set_option maxHeartbeats 2000000 in
theorem clone_any (zs : List Int) (A : Option Addr) (c : Nat) (w : World) (hz : Zs w w.heap.size A zs) (hl : zs.length ≤ 1000000) :
    Calls Try.prog 30 #[.slice A zs.length c] w (NewO zs w) := by
  have hnil := fun (W : World) (a : Option Addr) (l c : Nat) => Lib.run_eql_slice_nil (P := Try.prog) W 34 3 a l c 0 0 Try.underlying34
  have hr := hz.row
  cases A with
  | none =>
    have h0 : zs.length = 0 := by
      apply Classical.byContradiction
      intro hn
      obtain ⟨b, off, h, _⟩ := hr.cells (by rw [zvals_length]; omega)
      cases h
    obtain rfl := List.eq_nil_of_length_eq_zero h0
    clear hz hr
    go_enter Try.func30, Try.ntmps30
    go_wp2_with fail
    go_ret
    exact ⟨none, 0, rfl, World.ownsRow_nil _ _ _ _, Below.refl _ _⟩
  | some a =>
    have hcells : ∀ j u, (zvals zs)[j]? = some u → w.cell? (a.add j) = some u := fun j u hu => by
      obtain ⟨b, off, h, hb, hc⟩ := hr.cells (Nat.lt_of_le_of_lt (Nat.zero_le _) (List.getElem?_eq_some_iff.1 hu).1)
      cases h
      rw [Go.WideShapes.add_plain]; exact hc j u hu
    have hblk : ∀ j u, (zvals zs)[j]? = some u → a.block < w.heap.size := fun j u hu => by
      obtain ⟨b, off, h, hb, hc⟩ := hr.cells (Nat.lt_of_le_of_lt (Nat.zero_le _) (List.getElem?_eq_some_iff.1 hu).1)
      cases h; exact hb
    have HC := Lib.hid hcells
    have HB := Lib.hid hblk
    obtain ⟨i0, hi, hz0, hz1, hz2⟩ := info_parts infoInt
    have hown : (w.alloc (.cells #[] 3)).ownsRow w.heap.size 3 1 (.slice (some ⟨w.heap.size, 0, none⟩) 0 0) 0 [] := World.ownsRow_made (e := 3) (size := 1) (base := w.heap.size) w #[] 0 (Nat.le_refl _) (by unfold maxLen; omega) rfl
    have hlm := Lib.hid (show (zvals zs).length = zs.length * 1 by rw [zvals_length]; omega)
    clear hcells hblk hr hz
    go_enter Try.func30, Try.ntmps30
    go_wp2_with (at_builtin; refine wpList_append_own _ rfl _ _ 34 rfl w.heap.size 3 i0 (.int .i64 0) 1 8 Try.underlying34 hi hz0 hz1 hz2 rfl (by decide) _ _ _ rfl hown a zs.length c (zvals zs) rfl hlm.out ?c1 ?c2 ?c3 ?c4 ?c5 ?_)
    case c1 =>
      intro j u hu
      have hb := HB.out j u hu
      have e : (a.add j).block = a.block := by unfold Addr.add; split <;> rfl
      rw [World.cell?_alloc_lt _ _ _ (by rw [e]; exact hb)]
      exact HC.out j u hu
    case c2 =>
      intro u hu
      unfold zvals at hu
      obtain ⟨x, _, rfl⟩ := List.mem_map.1 hu
      rfl
    case c3 => unfold maxLen; omega
    case c4 => simp; omega
    case c5 => simp
    intro v' w3 hown' hgrow _
    have b3 : Below w.heap.size w w3 := (al1 w (.cells #[] 3)).grown hgrow (by simp) (fun k e => by simp [Value.ownBlock] at e; omega)
    replace hown' : w3.ownsRow w.heap.size 3 1 v' zs.length (zvals zs) := by simpa using hown'
    obtain ⟨An, cn, rfl⟩ := own_slice_ hown'
    have HO := Lib.hid hown'
    clear hown' hgrow hown
    go_wp2_with fail
    go_ret
    exact ⟨An, cn, rfl, HO.out, b3⟩
theorem min2 (a b n : Int) (h : n = min a b) (ts : Array TypeId) (t : TypeId) (W : World) : (Builtin.min_ ts t #[.int .i64 a, .int .i64 b]).run Try.prog W = .ok (.int .i64 n) W := by
  have e : ∀ a b : Int, (if b < a then b else a) = min a b := fun a b => by omega
  simp [Builtin.min_, Builtin.min2, List.foldlM, e, go_sem, h]
/-- few, by the lengths of the clauses -/
def fewA : List Nat → Int → Bool
  | [], _ => true
  | n :: r, k => if k - min (n : Int) (k + 1) < 0 then false else fewA r (k - min (n : Int) (k + 1))
def fewL (l : List (List Int)) (m : Nat) (k : Int) : Bool := decide (l.length ≤ m) && fewA (l.map List.length) k
theorem fewA_le : ∀ (l : List Nat) (k : Int), 0 ≤ k → fewA l k = true → ∀ n ∈ l, (n : Int) ≤ k := by
  intro l
  induction l with
  | nil => intro k _ _ n hn; cases hn
  | cons a l ih =>
    intro k hk h n hn
    unfold fewA at h
    split at h
    · cases h
    · rename_i hge
      rcases List.mem_cons.1 hn with rfl | hn
      · omega
      · have := ih _ (by omega) h n hn
        omega
theorem fewL_bd {cs : List Cl} {m : Nat} {k : Int} (hk : 0 ≤ k) (h : fewL (ct cs) m k = true) : cs.length ≤ m ∧ ∀ c ∈ cs, (c.zs.length : Int) ≤ k := by
  unfold fewL at h
  rw [Bool.and_eq_true, decide_eq_true_eq, List.length_map] at h
  refine ⟨h.1, fun c hc => fewA_le _ k hk h.2 _ (List.mem_map.2 ⟨c.zs, List.mem_map.2 ⟨c, hc, rfl⟩, rfl⟩)⟩
set_option maxRecDepth 100000 in
set_option maxHeartbeats 1000000 in
theorem few_any (cs : List Cl) (A : Option Addr) (ca : Nat) (m k : Nat) (w : World) (hx : LL w w.heap.size A cs) (hm : m ≤ 1000000) (hk : k ≤ 1000000) :
    Calls Try.prog 10 #[.slice A cs.length ca, .int .i64 (m : Int), .int .i64 (k : Int)] w fun e w' => e = .returned (.bool (fewL (ct cs) m k)) ∧ w = w' := by
  have HE : Hid (fewL (ct cs) m k = (decide (cs.length ≤ m) && fewA ((ct cs).map List.length) k)) := Lib.hid (by unfold fewL; rw [List.length_map])
  have hlen := hx.len
  have HX := Lib.hid hx
  obtain ⟨n, hn⟩ : ∃ n, Hid (cs.length = n) := ⟨_, Lib.hid rfl⟩
  obtain ⟨e, he⟩ : ∃ e, Hid (fewL (ct cs) m k = e) := ⟨_, Lib.hid rfl⟩
  rw [he.out] at HE ⊢
  rw [hn.out] at HE hlen ⊢
  clear he hx
  by_cases hnm : n ≤ m
  case neg =>
    have he0 : e = false := by rw [HE.out, decide_eq_false hnm]; rfl
    subst he0
    clear HE HX
    go_enter Try.func10, Try.ntmps10
    go_wp2_with fail
    go_ret
    exact ⟨rfl, rfl⟩
  have H0 : Hid (e = fewA (((ct cs).map List.length).drop 0) (k : Int)) := Lib.hid (by rw [HE.out, decide_eq_true hnm, Bool.true_and]; rfl)
  have hn6 : n ≤ 1000000 := by omega
  clear HE
  go_enter Try.func10, Try.ntmps10
  go_wp2_with fail
  go_loop [2, 8, 15] (fun kv v8 iv => ∃ (i : Nat) (z : Int), i ≤ n ∧ iv = .int .i64 i ∧ kv = .int .i64 z ∧ 0 ≤ z ∧ z ≤ 1000000 ∧ Hid (e = fewA (((ct cs).map List.length).drop i) z)) (fun _ _ iv => n - (intOf iv).toNat)
  case atStart => exact ⟨0, (k : Int), Nat.zero_le _, rfl, rfl, by omega, by omega, H0⟩
  case round =>
    clear H0
    obtain ⟨i, z, hi, rfl, rfl, hz0, hz6, H1⟩ := hrel
    by_cases hlt : i < n
    · obtain ⟨b, off, c, rfl, hb, c0, hci, zc⟩ := HX.out.at_ (show i < cs.length by rw [hn.out]; exact hlt)
      obtain ⟨d, hd⟩ : ∃ d, Hid (c.zs.length = d) := ⟨_, Lib.hid rfl⟩
      have hdl := zc.len
      rw [hd.out] at c0 hdl
      have h2 : e = if z - min (d : Int) (z + 1) < 0 then false else fewA (((ct cs).map List.length).drop (i + 1)) (z - min (d : Int) (z + 1)) := by
        rw [H1.out, drop_cons_ (l := (ct cs).map List.length) (i := i) (x := d) (by rw [List.getElem?_map, List.getElem?_map, hci]; simp [hd.out])]; rfl
      obtain ⟨q, hq⟩ : ∃ q, q = min (d : Int) (z + 1) := ⟨_, rfl⟩
      rw [← hq] at h2
      have hmn := fun ts t W => min2 (d : Int) (z + 1) q hq ts t W
      have hqb : 0 ≤ q ∧ q ≤ z + 1 := by omega
      have e1 : IntKind.i64.wrap (z + 1) = z + 1 := IntWalk.i64_in _ (by omega)
      obtain ⟨y, hy⟩ : ∃ y, Hid (z - q = y) := ⟨_, Lib.hid rfl⟩
      have e2 : IntKind.i64.wrap (z - q) = y := by rw [IntWalk.i64_in _ (by omega)]; exact hy.out
      rw [hy.out] at h2
      have hyb : -1 ≤ y ∧ y ≤ 1000000 := by have := hy.out; omega
      obtain ⟨hyb1, hyb2⟩ := hyb
      have HH := Lib.hid h2
      clear h2 H1 hy hqb hci zc hq hd
      by_cases hy0 : y < 0
      · have he0 : e = false := by rw [HH.out, if_pos hy0]
        subst he0
        clear HH
        go_wp2_with fail
        go_ret
        exact ⟨rfl, rfl⟩
      · have H3 : Hid (e = fewA (((ct cs).map List.length).drop (i + 1)) y) := Lib.hid (by rw [HH.out, if_neg hy0])
        clear HH
        go_wp2_with fail
        go_round
        case rel => exact ⟨i + 1, y, by omega, by go_num, rfl, by omega, hyb2, H3⟩
        case measure => simp [intOf]; omega
    · obtain rfl : i = n := by omega
      have he1 : e = true := by
        rw [H1.out, List.drop_of_length_le (by rw [List.length_map, List.length_map, hn.out]; exact Nat.le_refl _)]; rfl
      subst he1
      clear H1 HX
      go_wp2_with fail
      go_ret
      exact ⟨rfl, rfl⟩
/-- Canonical of the package -/
theorem canonical_any (cs : List Cl) (A : Option Addr) (ca : Nat) (w : World) (hx : LL w w.heap.size A cs) (hlx : cs.length ≤ 1000000) (hcx : ∀ c ∈ cs, c.zs.length ≤ 1000000) :
    Calls Try.prog 15 #[.slice A cs.length ca] w (NLL (canL (ct cs)) w) := by
  have hst : ∀ x, inI x → ∀ W, Below w.heap.size w W → Calls Try.prog 40 (#[.int .i64 x] ++ #[]) W fun e w' => e = .returned (.bool ((fun _ : Int => true) x)) ∧ W = w' := fun x _ W _ => by
    show Calls Try.prog 40 #[.int .i64 x] W _
    go_enter Try.func40, Try.ntmps40
    go_wp2_with fail
    go_ret
    exact ⟨rfl, rfl⟩
  have H := canonP_any (fun _ => true) cs A ca w hx hlx hcx hst
  have e : (ct cs).map (fun z => z.filter fun _ => true) = ct cs := by
    have : (fun z : List Int => z.filter fun _ => true) = id := by funext z; simp
    rw [this, List.map_id]
  rw [e] at H
  have HH := Lib.hid H
  clear H e hst hx hcx
  unfold NLL at HH
  go_enter Try.func15, Try.ntmps15
  go_wp2_with fail
  refine HH.out.mono ?_
  rintro r w2 ⟨A2, c2, ds, rfl, h1, h2, h3⟩
  clear HH
  go_wp2_with fail
  go_ret
  exact ⟨A2, c2, ds, rfl, h1, h2, h3⟩
end Go.Proofs.Ytdbboeknknlolaa
