/- Plain: types without addresses; names replaced; what Check and Expand answer. Of no program. -/
import Derived.Test.YtlifnabeilnblaaGreatDoorTk
namespace Go.Proofs.YtlifnabeilnblaaGreatDoor
namespace G
set_option linter.unusedVariables false

/-! ### without addresses -/
mutual
def bare : G → G | .mk k l h s n _ _ ns _ _ ks => .mk k l h s n none 0 ns none 0 (bareL ks)
def bareL : List G → List G | [] => [] | e :: l => bare e :: bareL l
end
theorem bareL_eq (l : List G) : bareL l = l.map bare := by
  induction l with
  | nil => simp [bareL]
  | cons a l ih => simp [bareL, ih]
theorem bare_eq (e : G) : e.bare = .mk e.kd e.lo e.hi e.sz e.nm none 0 e.ns none 0 (e.ks.map bare) := by
  cases e; rw [bare, bareL_eq]; rfl
theorem bare_kd (e : G) : e.bare.kd = e.kd := by rw [bare_eq]; rfl
theorem bare_lo (e : G) : e.bare.lo = e.lo := by rw [bare_eq]; rfl
theorem bare_hi (e : G) : e.bare.hi = e.hi := by rw [bare_eq]; rfl
theorem bare_sz (e : G) : e.bare.sz = e.sz := by rw [bare_eq]; rfl
theorem bare_nm (e : G) : e.bare.nm = e.nm := by rw [bare_eq]; rfl
theorem bare_ns (e : G) : e.bare.ns = e.ns := by rw [bare_eq]; rfl
theorem bare_ks (e : G) : e.bare.ks = e.ks.map bare := by rw [bare_eq]; rfl
theorem bare_bare (e : G) : e.bare.bare = e.bare := by
  induction e using G.ind with
  | h e ih =>
    rw [bare_eq e.bare, bare_kd, bare_lo, bare_hi, bare_sz, bare_nm, bare_ns, bare_ks, List.map_map, bare_eq e]
    congr 1
    exact List.map_congr_left fun k hk => ih k hk
theorem nodesL_map {f : G → G} (l : List G) (h : ∀ k ∈ l, (f k).nodes = k.nodes) : nodesL (l.map f) = nodesL l := by
  induction l with
  | nil => rfl
  | cons a l ih => simp only [List.map_cons, nodesL]; rw [h a (by simp), ih fun k hk => h k (by simp [hk])]
theorem depL_map {f : G → G} (l : List G) (h : ∀ k ∈ l, (f k).dep = k.dep) : depL (l.map f) = depL l := by
  induction l with
  | nil => rfl
  | cons a l ih => simp only [List.map_cons, depL]; rw [h a (by simp), ih fun k hk => h k (by simp [hk])]
theorem anyL_map {p : G → Bool} {f : G → G} (l : List G) (h : ∀ k ∈ l, (f k).any p = k.any p) : anyL p (l.map f) = anyL p l := by
  induction l with
  | nil => rfl
  | cons a l ih => simp only [List.map_cons, anyL]; rw [h a (by simp), ih fun k hk => h k (by simp [hk])]
theorem nodes_bare (e : G) : e.bare.nodes = e.nodes := by
  induction e using G.ind with
  | h e ih => rw [nodes_eq, nodes_eq, bare_ks, nodesL_map _ ih]
theorem dep_bare (e : G) : e.bare.dep = e.dep := by
  induction e using G.ind with
  | h e ih => rw [dep_eq, dep_eq, bare_ks, depL_map _ ih]
theorem any_bare {p : G → Bool} (hp : ∀ e, p e.bare = p e) (e : G) : e.bare.any p = e.any p := by
  induction e using G.ind with
  | h e ih => rw [any_eq, any_eq, bare_ks, anyL_map _ ih, hp]
theorem cnt_eq' (e : G) : e.cnt = min (if e.kd = 2 then e.sz * cnt.cntH e.ks else if e.kd = 3 then cnt.cntL e.ks else 1) 33 := by cases e; rw [cnt]; rfl
theorem cnt_bare (e : G) : e.bare.cnt = e.cnt := by
  induction e using G.ind with
  | h e ih =>
    rw [cnt_eq', cnt_eq' e, bare_kd, bare_sz, bare_ks]
    have h1 : cnt.cntH (e.ks.map bare) = cnt.cntH e.ks := by
      cases hk : e.ks with
      | nil => rfl
      | cons a l => simp only [List.map_cons, cnt.cntH]; exact ih a (by rw [hk]; simp)
    have key : ∀ l : List G, (∀ k ∈ l, k.bare.cnt = k.cnt) → cnt.cntL (l.map bare) = cnt.cntL l := by
      intro l
      induction l with
      | nil => intro _; rfl
      | cons a l ihl => intro hh; simp only [List.map_cons, cnt.cntL]; rw [hh a (by simp), ihl fun k hk => hh k (by simp [hk])]
    rw [h1, key e.ks ih]
theorem bnd_bare (e : G) : e.bare.bnd = e.bnd := by unfold bnd; rw [bare_lo, bare_hi]
theorem flds_bare (e : G) : e.bare.flds = e.flds := by unfold flds; rw [bnd_bare, bare_sz, bare_nm, bare_ns, bare_ks, List.length_map]
theorem mal_bare (e : G) : e.bare.mal = e.mal := by unfold mal form; rw [flds_bare, bare_kd, bare_ks, List.length_map, bare_ns]
theorem mis_bare {nmB : ByteArray → Bool} (e : G) : mis nmB e.bare = mis nmB e := by unfold mis named; rw [bare_kd, bare_ns, bare_nm]
theorem out_bare (e : G) : e.bare.out = e.out := by unfold out inr; rw [bare_kd, bare_lo, bare_hi, bare_sz, bare_ks, List.length_map]
theorem chk_bare {nmB : ByteArray → Bool} (e : G) : chk nmB e.bare = chk nmB e := by
  unfold chk
  rw [nodes_bare, dep_bare, any_bare mal_bare, any_bare mis_bare, any_bare out_bare]
theorem map_eqL {l l' : List G} (h : ∀ e ∈ l, ∀ f, eqB e f = true ↔ e.bare = f.bare) : eqL l l' = true ↔ l.map bare = l'.map bare := by
  induction l generalizing l' with
  | nil => cases l' with
    | nil => simp [eqL]
    | cons a l => simp [eqL]
  | cons a l ih => cases l' with
    | nil => simp [eqL]
    | cons a' l' =>
      simp only [eqL, Bool.and_eq_true, List.map_cons, List.cons.injEq]
      rw [h a (by simp) a', ih fun e he => h e (by simp [he])]
theorem eqB_bare (e : G) : ∀ f, eqB e f = true ↔ e.bare = f.bare := by
  induction e using G.ind with
  | h e ih =>
    intro f
    rw [eqB_eq, bare_eq, bare_eq f]
    simp only [Bool.and_eq_true, beq_iff_eq, decide_eq_true_eq, G.mk.injEq, true_and]
    rw [map_eqL ih]
    constructor
    · rintro ⟨⟨⟨⟨⟨⟨h1, h2⟩, h3⟩, h4⟩, h5⟩, h6⟩, h7⟩
      exact ⟨h1, h2, h3, h4, h5, h6, h7⟩
    · rintro ⟨h1, h2, h3, h4, h5, h6, h7⟩
      exact ⟨⟨⟨⟨⟨⟨h1, h2⟩, h3⟩, h4⟩, h5⟩, h6⟩, h7⟩
theorem eqB_self_bare (e : G) : eqB e e.bare = true := (eqB_bare e _).2 (bare_bare e).symm

/-! ### what Check asks beside the form -/
def isName (e : G) : Bool := e.kd == 4
/-- two components of one name -/
def twins (e : G) : Bool := !decide e.ns.Nodup
/-- the code of a type without names -/
def exC (e : G) : Int := if e.any twins then 8 else if 12 < e.dep ∨ 32 < e.cnt then 4 else 0
/-- Check -/
def chkT (nmB : ByteArray → Bool) (e : G) : Int := if chk nmB e ≠ 0 then chk nmB e else if e.any isName then 7 else exC e
theorem isName_bare (e : G) : isName e.bare = isName e := by unfold isName; rw [bare_kd]
theorem twins_bare (e : G) : twins e.bare = twins e := by unfold twins; rw [bare_ns]
theorem exC_bare (e : G) : exC e.bare = exC e := by unfold exC; rw [any_bare twins_bare, dep_bare, cnt_bare]
theorem chkT_bare {nmB : ByteArray → Bool} (e : G) : chkT nmB e.bare = chkT nmB e := by unfold chkT; rw [chk_bare, any_bare isName_bare, exC_bare]
/-- a record with two components of one name, as the reference asks it -/
def dbl (e : G) : Bool := e.kd == 3 && twins e
theorem dbl_twins (e : G) (h : e.mal = false) : dbl e = twins e := by
  have f := (mal_iff e).1 h
  unfold dbl
  by_cases h3 : e.kd = 3
  · rw [h3]; rfl
  · unfold twins
    rw [List.eq_nil_of_length_eq_zero (f.ns h3)]
    simp
/-- the reference's code -/
def rchkT (nmB : ByteArray → Bool) (e : G) : Int := if chk nmB e ≠ 0 then chk nmB e else if e.any isName then 7 else if e.any dbl then 8 else if 32 < e.cnt then 4 else 0
theorem chkT_rchkT {nmB : ByteArray → Bool} (e : G) : chkT nmB e = rchkT nmB e := by
  unfold chkT rchkT
  by_cases h : chk nmB e ≠ 0
  · rw [if_pos h, if_pos h]
  · rw [if_neg h, if_neg h]
    have ok := chk_ok.1 (by simpa using h)
    by_cases hn : e.any isName = true
    · rw [if_pos hn, if_pos hn]
    · rw [if_neg hn, if_neg hn]
      unfold exC
      rw [any_congr2 dbl_twins e ok.mal]
      have := ok.dep
      have hq : (12 < e.dep ∨ 32 < e.cnt) = (32 < e.cnt) := propext ⟨fun h => h.resolve_left (by omega), .inr⟩
      simp only [hq]

/-! ### names replaced -/
/-- the zero type -/
def zero : G := .mk 0 0 0 0 ⟨#[]⟩ none 0 [] none 0 []
abbrev Sco := List (ByteArray × G)
def look (σ : Sco) (n : ByteArray) : Option G := (σ.find? fun p => decide (p.1 = n)).map (·.2)
mutual
def repl (σ : Sco) : G → G
  | .mk k l h s n _ _ ns _ _ ks => if k = 4 then ((look σ n).getD zero).bare else .mk k l h s n none 0 ns none 0 (replL σ ks)
def replL (σ : Sco) : List G → List G | [] => [] | e :: l => repl σ e :: replL σ l
end
theorem replL_eq (σ : Sco) (l : List G) : replL σ l = l.map (repl σ) := by
  induction l with
  | nil => simp [replL]
  | cons a l ih => simp [replL, ih]
theorem repl_eq (σ : Sco) (e : G) : repl σ e = if e.kd = 4 then ((look σ e.nm).getD zero).bare else .mk e.kd e.lo e.hi e.sz e.nm none 0 e.ns none 0 (e.ks.map (repl σ)) := by
  cases e; rw [repl, replL_eq]; rfl
/-- a name that is not declared -/
def unk (σ : Sco) (e : G) : Bool := e.kd == 4 && (look σ e.nm).isNone
/-- a type and a code -/
def expT (nmB : ByteArray → Bool) (σ : Sco) (t : G) : G × Int :=
  if chk nmB t ≠ 0 then (zero, chk nmB t) else if t.any (unk σ) then (zero, 7) else if exC (repl σ t) ≠ 0 then (zero, exC (repl σ t)) else (repl σ t, 0)
end G
/-- a declaration: kind, name, type, and the cells behind them -/
structure Dc where
  kd : Int
  nm : ByteArray
  t : G
  ini : Int
  vo : Int
  vn : Int
  vs : ByteArray
  a0 : Option Addr
  n0 : Nat
  p0 : Nat
  a1 : Option Addr
  n1 : Nat
  p1 : Nat
  a2 : Option Addr
  n2 : Nat
  p2 : Nat
  a3 : Option Addr
  n3 : Nat
  p3 : Nat
namespace G
/-- the declared types, and a code -/
def knD (nmB : ByteArray → Bool) : List Dc → Sco → Sco × Int
  | [], σ => (σ, 0)
  | d :: l, σ => if d.kd ≠ 0 then knD nmB l σ else if !nmB d.nm then (σ, 7) else if (look σ d.nm).isSome then (σ, 8) else if (expT nmB σ d.t).2 ≠ 0 then (σ, (expT nmB σ d.t).2) else knD nmB l ((d.nm, (expT nmB σ d.t).1) :: σ)
/-- Expand -/
def expD (nmB : ByteArray → Bool) (ds : List Dc) (t : G) : G × Int := if (knD nmB ds []).2 ≠ 0 then (zero, (knD nmB ds []).2) else expT nmB (knD nmB ds []).1 t
end G
end Go.Proofs.YtlifnabeilnblaaGreatDoor
