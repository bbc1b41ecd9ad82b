/- Windows of a block that a call changes: words for the walks over long division. -/
import Derived.Test.YtmhfdmidaheoeaaDoorW8
import Derived.Test.YtmhfdmidaheoeaaDoorDz
import Derived.Deep.AppendLies
namespace Go.Proofs.YtmhfdmidaheoeaaDoor
open Go.RowKit
set_option linter.unusedVariables false

theorem grown_set (w : World) (a : Addr) (u : Value) : w.grownBy (w.setCell a u) (some a.block) :=
  ⟨rfl, rfl, rfl, by simp [World.setCell], fun i hi hne => Below.heap_setCell w a u i (fun e => hne (by rw [e]))⟩
theorem grown_refl (w : World) (row : Option Nat) : w.grownBy w row := ⟨rfl, rfl, rfl, Nat.le_refl _, fun _ _ _ => rfl⟩
theorem grown_drew {w wr : World} {row : Option Nat} (h : w.grownBy wr row) : w.grownBy wr.drew row := ⟨h.os, h.tape, h.output, h.size, h.block⟩
theorem grown_drewN {w wr : World} {row : Option Nat} (h : w.grownBy wr row) (n : Nat) : w.grownBy (wr.drewN n) row := ⟨h.os, h.tape, h.output, h.size, h.block⟩
/-- a row below the block that is changed -/
theorem Sl.but {w wr : World} {g : Nat} {A : Option Addr} {c : Nat} {ws : List Nat} (h : Sl w g A c ws) (hg : w.grownBy wr (some g)) (hlt : g ≤ w.heap.size) : Sl wr g A c ws :=
  ⟨⟨h.nums.row.keep fun p hp => hg.cell_far p (by omega) (by intro e; injection e with e; omega)⟩, h.wd, h.cap, h.nil0⟩
theorem Blk.but {κ : IntKind} {T : TypeId} {w wr : World} {g g' : Nat} {ws : List Nat} (h : Blk κ T w g' ws) (hg : w.grownBy wr (some g)) (hne : g' ≠ g) : Blk κ T wr g' ws :=
  (hg.block g' h.lt (by intro e; injection e with e; exact hne e)).trans h

/-- a window of a block: the words us between pre and post -/
structure Win (w wr : World) (g : Nat) (pre us post : List Nat) (n : Nat) : Prop where
  row : Blk .u32 39 wr g (pre ++ us ++ post)
  len : us.length = n
  wd : Kn.Wd us
  gr : w.grownBy wr (some g)
section
variable {w wr : World} {g n : Nat} {pre us post : List Nat}
theorem Win.put (h : Win w wr g pre us post n) {i k x : Nat} (hi : pre.length = i) (hk : k < n) (hx : x < 4294967296) : Win w (wr.setCell ⟨g, i + k, none⟩ (.int .u32 (x : Int))) g pre (us.set k x) post n :=
  ⟨by
    have hl := h.len
    have := h.row.set_ (i + k) x
    rwa [← hi, Kn.set_mid _ _ _ (by omega), hi] at this, by rw [List.length_set]; exact h.len, h.wd.set k hx, h.gr.trans (grown_set _ ⟨g, i + k, none⟩ _)⟩
theorem Win.cell (h : Win w wr g pre us post n) {i k : Nat} (hi : pre.length = i) (hk : k < n) : wr.cell? ⟨g, i + k, none⟩ = some (.int .u32 ((us.getD k 0 : Nat) : Int)) := by
  have hl := h.len
  have := h.row.cell (k := i + k) (by simp only [List.length_append]; omega)
  rwa [← hi, Kn.getD_mid _ _ _ (by omega), hi] at this
theorem Win.frozen (h : Win w wr g pre us post n) (k : Nat) : wr.frozen? ⟨g, k, none⟩ = false := h.row.frozen k
theorem Win.start (h : Blk .u32 39 w g (pre ++ us ++ post)) (hl : us.length = n) (hw : Kn.Wd us) : Win w w g pre us post n := ⟨h, hl, hw, grown_refl _ _⟩
theorem Win.drew (h : Win w wr g pre us post n) : Win w wr.drew g pre us post n := ⟨h.row.drew, h.len, h.wd, grown_drew h.gr⟩
theorem Win.drewN (h : Win w wr g pre us post n) (q : Nat) : Win w (wr.drewN q) g pre us post n := ⟨h.row.drewN q, h.len, h.wd, grown_drewN h.gr q⟩
theorem Win.on {wx : World} {vs : List Nat} (h : Win w wr g pre us post n) (h2 : Win wr wx g pre vs post n) : Win w wx g pre vs post n := ⟨h2.row, h2.len, h2.wd, h.gr.trans h2.gr⟩
end

theorem or_any64 (a b : Nat) (ha : a < 18446744073709551616) (hb : b < 18446744073709551616) : bits BinOp.or IntKind.u64 (a : Int) (b : Int) = ((a ||| b : Nat) : Int) := u64_or_nat a b ha hb
theorem getD_drop_eq {l m : List Nat} {k : Nat} (h : l.drop k = m.drop k) : l.getD k 0 = m.getD k 0 := by
  have h1 := congrArg (fun x : List Nat => x.getD 0 0) h
  simpa [List.getD_eq_getElem?_getD, List.getElem?_drop] using h1
theorem drop_succ_eq {l m : List Nat} {k : Nat} (h : l.drop k = m.drop k) : l.drop (k + 1) = m.drop (k + 1) := by
  have h1 := congrArg (fun x : List Nat => x.drop 1) h
  simpa [List.drop_drop] using h1
end Go.Proofs.YtmhfdmidaheoeaaDoor
/- Walks: subtractMultiple, addBack. -/
namespace Go.Proofs.YtmhfdmidaheoeaaDoor
open Go.RowKit
set_option linter.unusedVariables false

/-- a word of a difference with a borrow, as the machine reckons it -/
theorem sub_word2 (x lo bo : Nat) (hx : x < 4294967296) (hl : lo < 4294967296) (hb : bo ≤ 1) : ∃ r bo' : Nat, r + lo + bo = x + 4294967296 * bo' ∧ r < 4294967296 ∧ bo' ≤ 1 ∧
    IntKind.u64.wrap (IntKind.u64.wrap ((x : Int) - (lo : Int)) - (bo : Int)) % 4294967296 = (r : Int) ∧ IntKind.u64.wrap (IntKind.u64.wrap ((x : Int) - (lo : Int)) - (bo : Int)) / 9223372036854775808 = (bo' : Int) := by
  rw [IntKind.wrap_u64, IntKind.wrap_u64]
  by_cases h : lo + bo ≤ x
  · exact ⟨x - lo - bo, 0, by omega, by omega, by omega, by omega, by omega⟩
  · exact ⟨x + 4294967296 - lo - bo, 1, by omega, by omega, by omega, by omega, by omega⟩

set_option maxRecDepth 100000 in
set_option maxHeartbeats 2000000 in
theorem subtractMultiple_any (g i c n f : Nat) (pre us0 post : List Nat) (B : Option Addr) (cb : Nat) (d : List Nat) (w : World) (h : Blk .u32 39 w g (pre ++ us0 ++ post)) (hpre : pre.length = i) (hul : us0.length = n + 1) (huw : Kn.Wd us0)
    (hd : Sl w g B cb d) (hdl : d.length = n) (hn : n ≤ 99999999) (hi : i ≤ 99999999) (hf : f < 4294967296) :
    Calls Tryd.prog 83 #[.slice (some ⟨g, i, none⟩) (n + 1 : Nat) c, .slice B n cb, .int .u64 (f : Int)] w fun e w' => ∃ us bo, e = .returned (.bool (decide (bo = 1))) ∧ Win w w' g pre us post (n + 1) ∧ bo ≤ 1 ∧ Kn.val us + f * Kn.val d = Kn.val us0 + Kn.pw (n + 1) * bo := by
  have hglt := h.lt
  have HD := Lib.hid hdl
  go_enter Tryd.func83, Tryd.ntmps83
  go_wp2_with fail
  go_loopw [7, 8, 13] (fun pv bv iv wr => ∃ k pr bo us, k ≤ n + 1 ∧ iv = .int .i64 (k : Nat) ∧ pv = .int .u64 (pr : Nat) ∧ bv = .int .u64 (bo : Nat) ∧ pr < 4294967296 ∧ bo ≤ 1 ∧ Hid (k = n + 1 → pr = 0) ∧ Win w wr g pre us post (n + 1) ∧
    Hid (us.drop k = us0.drop k ∧ Kn.val (us.take k) + f * Kn.val (d.take k) = Kn.val (us0.take k) + Kn.pw k * (pr + bo))) (fun _ _ iv _ => n + 1 - (intOf iv).toNat)
  case atStart => exact ⟨0, 0, 0, us0, Nat.zero_le _, rfl, rfl, rfl, by omega, by omega, Lib.hid (fun _ => rfl), Win.start h hul huw, Lib.hid ⟨rfl, by simp [Kn.val]⟩⟩
  case round =>
    obtain ⟨k, pr, bo, us, hk, rfl, rfl, rfl, hpr, hbo, HP, I, HI⟩ := hrel
    by_cases hlt : k < n + 1
    · have hcg := I.cell hpre hlt
      have hfg := I.frozen (i + k)
      obtain ⟨x, hx⟩ : ∃ x : Nat, Hid (x = us.getD k 0) := ⟨_, Lib.hid rfl⟩
      rw [← hx.out] at hcg
      have hxl : x < 4294967296 := by rw [hx.out]; exact I.wd.getD _
      have hx0 : Hid (x = us0.getD k 0) := Lib.hid (by rw [hx.out]; exact getD_drop_eq HI.out.1)
      have hIk : (k : Int) < (n : Int) + 1 := by omega
      by_cases hlt2 : k < n
      · obtain ⟨b2, o2, y, rfl, hb2, hc2, hy, hyl⟩ := (hd.but I.gr (by omega)).word (k := k) (by rw [HD.out]; exact hlt2)
        have hlt3 : decide (k < n) = true := by simp [hlt2]
        obtain ⟨fy, hfy⟩ : ∃ fy : Nat, Hid (fy = f * y) := ⟨_, Lib.hid rfl⟩
        have hfyl : fy ≤ 18446744065119617025 := by rw [hfy.out]; exact Nat.le_trans (Nat.mul_le_mul (show f ≤ 4294967295 by omega) (show y ≤ 4294967295 by omega)) (by decide)
        have hfyw : Hid (IntKind.u64.wrap ((f : Int) * (y : Int)) = (fy : Int)) := Lib.hid (by rw [← Int.natCast_mul, ← hfy.out]; exact wrap_nat (by omega))
        have ep : Hid (IntKind.u64.wrap ((pr : Int) + (fy : Int)) = ((pr + fy : Nat) : Int)) := Lib.hid (by rw [← Int.natCast_add]; exact wrap_nat (by omega))
        have al : Hid (bits BinOp.and IntKind.u64 ((pr + fy : Nat) : Int) 4294967295 = (((pr + fy) % 4294967296 : Nat) : Int)) := Lib.hid (and_low _ (by omega))
        obtain ⟨r, bo', D1, D2, D3, D4, D5⟩ := sub_word2 x ((pr + fy) % 4294967296) bo hxl (by omega) hbo
        have HD1 := Lib.hid D1
        have HD4 := Lib.hid D4
        have HD5 := Lib.hid D5
        clear D1 D4 D5
        have hq : (pr + fy) / 4294967296 < 4294967296 := by omega
        have HN : Hid ((us.set k r).drop (k + 1) = us0.drop (k + 1) ∧ Kn.val ((us.set k r).take (k + 1)) + f * Kn.val (d.take (k + 1)) = Kn.val (us0.take (k + 1)) + Kn.pw (k + 1) * ((pr + fy) / 4294967296 + bo')) := Lib.hid
          ⟨by rw [Kn.drop_set _ _ (by omega)]; exact drop_succ_eq HI.out.1, Kn.subm_step (by have := I.len; omega) hx0.out HI.out.2 (by rw [hfy.out, hy.out]) HD1.out⟩
        have J := I.put hpre hlt D2
        have HP2 : Hid (k + 1 = n + 1 → (pr + fy) / 4294967296 = 0) := Lib.hid (fun e => by omega)
        go_wp2_with fail
        rw [hfyw.out, ep.out, al.out, HD4.out, HD5.out, show ((pr + fy : Nat) : Int) / 4294967296 = (((pr + fy) / 4294967296 : Nat) : Int) by omega]
        go_roundw
        case rel => exact ⟨k + 1, _, _, _, by omega, by go_num, rfl, rfl, hq, D3, HP2, J, HN⟩
        case measure => first | (simp [intOf]; done) | (simp [intOf]; omega)
      · obtain rfl : k = n := by omega
        have hlt3 : decide (k < k) = false := by simp
        have hy0 : Hid (d.getD k 0 = 0) := Lib.hid (by rw [List.getD_eq_getElem?_getD, List.getElem?_eq_none (by have := HD.out; omega)]; rfl)
        have al : Hid (bits BinOp.and IntKind.u64 (pr : Int) 4294967295 = ((pr % 4294967296 : Nat) : Int)) := Lib.hid (and_low _ (by omega))
        obtain ⟨r, bo', D1, D2, D3, D4, D5⟩ := sub_word2 x (pr % 4294967296) bo hxl (by omega) hbo
        have HD1 := Lib.hid D1
        have HD4 := Lib.hid D4
        have HD5 := Lib.hid D5
        clear D1 D4 D5
        have hq : pr / 4294967296 < 4294967296 := by omega
        have HN : Hid ((us.set k r).drop (k + 1) = us0.drop (k + 1) ∧ Kn.val ((us.set k r).take (k + 1)) + f * Kn.val (d.take (k + 1)) = Kn.val (us0.take (k + 1)) + Kn.pw (k + 1) * (pr / 4294967296 + bo')) := Lib.hid
          ⟨by rw [Kn.drop_set _ _ (by omega)]; exact drop_succ_eq HI.out.1, Kn.subm_step (by have := I.len; omega) hx0.out HI.out.2 (by rw [hy0.out]; simp) HD1.out⟩
        have J := I.put hpre hlt D2
        have HP2 : Hid (k + 1 = k + 1 → pr / 4294967296 = 0) := Lib.hid (fun e => by omega)
        go_wp2_with fail
        rw [al.out, HD4.out, HD5.out, show (pr : Int) / 4294967296 = ((pr / 4294967296 : Nat) : Int) by omega]
        go_roundw
        case rel => exact ⟨k + 1, _, _, _, by omega, by go_num, rfl, rfl, hq, D3, HP2, J, HN⟩
        case measure => first | (simp [intOf]; done) | (simp [intOf]; omega)
    · obtain rfl : k = n + 1 := by omega
      have hfin : Hid (Kn.val us + f * Kn.val d = Kn.val us0 + Kn.pw (n + 1) * bo) := Lib.hid (by
        have h1 := HI.out.2
        rw [List.take_of_length_le (by have := I.len; omega), List.take_of_length_le (by have := HD.out; omega), List.take_of_length_le (by omega), HP.out rfl, Nat.zero_add] at h1
        exact h1)
      have hb1 : Hid (((bo : Int) != 0) = decide (bo = 1)) := Lib.hid (by rcases (show bo = 0 ∨ bo = 1 by omega) with e | e <;> subst e <;> rfl)
      go_wp2_with fail
      go_ret
      exact ⟨us, bo, ret_bool hb1.out, I, hbo, hfin.out⟩

set_option maxRecDepth 100000 in
set_option maxHeartbeats 2000000 in
theorem addBack_any (g i c n : Nat) (pre us0 post : List Nat) (B : Option Addr) (cb : Nat) (d : List Nat) (w : World) (h : Blk .u32 39 w g (pre ++ us0 ++ post)) (hpre : pre.length = i) (hul : us0.length = n + 1) (huw : Kn.Wd us0)
    (hd : Sl w g B cb d) (hdl : d.length = n) (hn : n ≤ 99999999) (hi : i ≤ 99999999) :
    Calls Tryd.prog 84 #[.slice (some ⟨g, i, none⟩) (n + 1 : Nat) c, .slice B n cb] w fun e w' => ∃ us cr, e = .returned (.tuple #[]) ∧ Win w w' g pre us post (n + 1) ∧ Kn.val us + Kn.pw (n + 1) * cr = Kn.val us0 + Kn.val d := by
  have hglt := h.lt
  have HD := Lib.hid hdl
  go_enter Tryd.func84, Tryd.ntmps84
  go_wp2_with fail
  go_loopw [4, 8] (fun cv iv wr => ∃ k cr us, k ≤ n + 1 ∧ iv = .int .i64 (k : Nat) ∧ cv = .int .u64 (cr : Nat) ∧ cr ≤ 1 ∧ Win w wr g pre us post (n + 1) ∧
    Hid (us.drop k = us0.drop k ∧ Kn.val (us.take k) + Kn.pw k * cr = Kn.val (us0.take k) + Kn.val (d.take k))) (fun _ iv _ => n + 1 - (intOf iv).toNat)
  case atStart => exact ⟨0, 0, us0, Nat.zero_le _, rfl, rfl, by omega, Win.start h hul huw, Lib.hid ⟨rfl, by simp [Kn.val]⟩⟩
  case round =>
    obtain ⟨k, cr, us, hk, rfl, rfl, hcr, I, HI⟩ := hrel
    by_cases hlt : k < n + 1
    · have hcg := I.cell hpre hlt
      have hfg := I.frozen (i + k)
      obtain ⟨x, hx⟩ : ∃ x : Nat, Hid (x = us.getD k 0) := ⟨_, Lib.hid rfl⟩
      rw [← hx.out] at hcg
      have hxl : x < 4294967296 := by rw [hx.out]; exact I.wd.getD _
      have hx0 : Hid (x = us0.getD k 0) := Lib.hid (by rw [hx.out]; exact getD_drop_eq HI.out.1)
      have hIk : (k : Int) < (n : Int) + 1 := by omega
      by_cases hlt2 : k < n
      · obtain ⟨b2, o2, y, rfl, hb2, hc2, hy, hyl⟩ := (hd.but I.gr (by omega)).word (k := k) (by rw [HD.out]; exact hlt2)
        have hlt3 : decide (k < n) = true := by simp [hlt2]
        have hq : (cr + x + y) / 4294967296 ≤ 1 := by omega
        have HN : Hid ((us.set k ((cr + x + y) % 4294967296)).drop (k + 1) = us0.drop (k + 1) ∧ Kn.val ((us.set k ((cr + x + y) % 4294967296)).take (k + 1)) + Kn.pw (k + 1) * ((cr + x + y) / 4294967296) = Kn.val (us0.take (k + 1)) + Kn.val (d.take (k + 1))) := Lib.hid
          ⟨by rw [Kn.drop_set _ _ (by omega)]; exact drop_succ_eq HI.out.1, Kn.add_step (by have := I.len; omega) HI.out.2 (show cr + x + y = _ by rw [hx0.out, hy.out])⟩
        have J := I.put hpre hlt (x := (cr + x + y) % 4294967296) (by omega)
        go_wp2_with fail
        rw [show (((cr : Int) + (x : Int)) + (y : Int)) % 4294967296 = (((cr + x + y) % 4294967296 : Nat) : Int) by omega, show (((cr : Int) + (x : Int)) + (y : Int)) / 4294967296 = (((cr + x + y) / 4294967296 : Nat) : Int) by omega]
        go_roundw
        case rel => exact ⟨k + 1, _, _, by omega, by go_num, rfl, hq, J, HN⟩
        case measure => first | (simp [intOf]; done) | (simp [intOf]; omega)
      · obtain rfl : k = n := by omega
        have hlt3 : decide (k < k) = false := by simp
        have hy0 : Hid (d.getD k 0 = 0) := Lib.hid (by rw [List.getD_eq_getElem?_getD, List.getElem?_eq_none (by have := HD.out; omega)]; rfl)
        have hq : (cr + x) / 4294967296 ≤ 1 := by omega
        have HN : Hid ((us.set k ((cr + x) % 4294967296)).drop (k + 1) = us0.drop (k + 1) ∧ Kn.val ((us.set k ((cr + x) % 4294967296)).take (k + 1)) + Kn.pw (k + 1) * ((cr + x) / 4294967296) = Kn.val (us0.take (k + 1)) + Kn.val (d.take (k + 1))) := Lib.hid
          ⟨by rw [Kn.drop_set _ _ (by omega)]; exact drop_succ_eq HI.out.1, Kn.add_step (by have := I.len; omega) HI.out.2 (show cr + x = _ by rw [hx0.out, hy0.out]; omega)⟩
        have J := I.put hpre hlt (x := (cr + x) % 4294967296) (by omega)
        go_wp2_with fail
        rw [show ((cr : Int) + (x : Int)) % 4294967296 = (((cr + x) % 4294967296 : Nat) : Int) by omega, show ((cr : Int) + (x : Int)) / 4294967296 = (((cr + x) / 4294967296 : Nat) : Int) by omega]
        go_roundw
        case rel => exact ⟨k + 1, _, _, by omega, by go_num, rfl, hq, J, HN⟩
        case measure => first | (simp [intOf]; done) | (simp [intOf]; omega)
    · obtain rfl : k = n + 1 := by omega
      have hfin : Hid (Kn.val us + Kn.pw (n + 1) * cr = Kn.val us0 + Kn.val d) := Lib.hid (by
        have h1 := HI.out.2
        rw [List.take_of_length_le (by have := I.len; omega), List.take_of_length_le (by omega), List.take_of_length_le (by have := HD.out; omega)] at h1
        exact h1)
      go_wp2_with fail
      go_end0
      exact ⟨us, cr, rfl, I, hfin.out⟩
end Go.Proofs.YtmhfdmidaheoeaaDoor
/- Values that a slice reads as, as a function of the world: measures of loops. -/
namespace Go.Proofs.YtmhfdmidaheoeaaDoor
open Go.RowKit
set_option linter.unusedVariables false

/-- the words that a slice reads -/
def rdWords (w : World) : Value → List Nat
  | .slice (some a) n _ => (List.range n).map fun k => match w.cell? ⟨a.block, a.off + k, none⟩ with | some (.int _ z) => z.toNat | _ => 0
  | _ => []
def rdVal (w : World) (v : Value) : Nat := Kn.val (rdWords w v)
theorem rdVal_sl {w : World} {B : Nat} {A : Option Addr} {c : Nat} {ws : List Nat} (h : Sl w B A c ws) : rdVal w (.slice A ws.length c) = Kn.val ws := by
  unfold rdVal
  congr 1
  rcases Nat.eq_zero_or_pos ws.length with h0 | h0
  · rw [List.length_eq_zero_iff.1 h0]
    cases A <;> rfl
  · obtain ⟨b, off, rfl, hb, hc⟩ := h.nums.row.cells (by rw [List.length_map]; exact h0)
    apply List.ext_getElem
    · simp [rdWords]
    · intro i h1 h2
      have := hc i (.int .u32 ((ws[i] : Nat) : Int)) (by rw [List.getElem?_map, List.getElem?_eq_getElem h2]; rfl)
      simp [rdWords, this]
theorem rdVal_dig {w : World} {B : Nat} {A : Option Addr} {c n : Nat} (h : Sl w B A c (Kn.dig n)) : rdVal w (.slice A (Kn.dig n).length c) = n := by rw [rdVal_sl h, Kn.val_dig]
end Go.Proofs.YtmhfdmidaheoeaaDoor
