import PyProof.Rows.All
import Wide.All
import OpenK.AllK
import Wide.FinOn
import HandS.ForMost
import HandS.ForExc
import HandS.TupAny
import HandS.Zip
import HandS.Flow
import HandS.More
import HandS.Deep
import HandS.TupLe
import HandS.Wide
import HandS.TupMul
import KE.DataEq
import HandS.IsInst
import HandS.SortInts
import HandS.Text
import HandS.Small
import HandS.Words
import HandS.WordsExc
import HandS.ExcOwn
import HandS.Conv
import KE.SortData
import KE.KDictSum
import HandS.Style
import HandS.Strs
import HandS.RaiseMore
import HandS.ReCall
import KE.KDictPairs
import KE.KDictCopyH
import PyProof.ReprRoads
import PyProof.CallFns
import HandS.Ends
import HandS.EndBits
import PySem.Challenge.RW_everycut_k17_whole_rows_told_by_cells
set_option Elab.async false
set_option linter.all false
set_option maxRecDepth 100000
set_option maxHeartbeats 4000000
set_option maxHeartbeats 4000000
namespace Rf
open PySem L2

/-! ### values, cells, outcomes -/
inductive W where
  | dat (d : PyData)
  | loc (n : Nat)
  | tw (ws : List W)
  | lw (ws : List W)
  | kt (ds : List PyData)
  deriving Inhabited
inductive Cell where
  | lst (ws : List W)
  | dic (kvs : List (PyData × W))
  | ins (c : Nat) (fs : List (Str × W))
abbrev Store := List Cell
abbrev Env := List (Option W)
inductive Out (α : Type) where
  | ok (a : α) (S : Store)
  | ex (c : Nat) (ws : List W) (S : Store)
  | stuck
abbrev M (α : Type) := List Nat → Env → Store → Out α
def Out.bind {α β : Type} : Out α → (α → Store → Out β) → Out β
  | .ok a S, f => f a S
  | .ex c ws S, _ => .ex c ws S
  | .stuck, _ => .stuck
@[simp] theorem Out.bind_ok {α β : Type} (a : α) (S : Store) (f : α → Store → Out β) : (Out.ok a S).bind f = f a S := rfl
@[simp] theorem Out.bind_ex {α β : Type} (c : Nat) (ws : List W) (S : Store) (f : α → Store → Out β) : (Out.ex c ws S : Out α).bind f = .ex c ws S := rfl
@[simp] theorem Out.bind_stuck {α β : Type} (f : α → Store → Out β) : (Out.stuck : Out α).bind f = .stuck := rfl
abbrev W.non : W := .dat .none
abbrev W.bl (b : Bool) : W := .dat (.bool b)
abbrev W.int (i : Int) : W := .dat (.int i)
abbrev W.str (s : Str) : W := .dat (.str s)
mutual
def W.und (n : Nat) : W → Bool
  | .dat _ => true
  | .loc k => decide (k < n)
  | .tw ws => W.undAll n ws
  | .lw ws => W.undAll n ws
  | .kt _ => true
def W.undAll (n : Nat) : List W → Bool
  | [] => true
  | w :: ws => W.und n w && W.undAll n ws
end
def Cell.und (n : Nat) : Cell → Bool
  | .lst ws => W.undAll n ws
  | .dic kvs => kvs.all fun p => p.2.und n
  | .ins _ fs => fs.all fun p => p.2.und n
/-- all of some values are data -/
def allDat : List W → Option (List PyData)
  | [] => some []
  | .dat d :: ws => (allDat ws).map (d :: ·)
  | _ :: _ => none
def mkLst (ws : List W) : W := match allDat ws with
  | some ds => .dat (.list ds)
  | none => .lw ws
def mkTup (ws : List W) : W := match allDat ws with
  | some ds => .dat (.tuple ds)
  | none => .tw ws

/-! ### what stands for what -/
structure Gx where
  K : PySem.W.Frag
  cls : Nat → Addr
  fld : Nat → Str
def kD : Key → PyData
  | .inl i => .int i
  | .inr x => .str x
mutual
inductive Rp (K : PySem.W.Frag) (F : Hp) : V → PyData → Prop
  | non : Rp K F .non .none
  | bl (b : Bool) : Rp K F (.bl b) (.bool b)
  | int (i : Int) : Rp K F (.int i) (.int i)
  | str (x : Str) : Rp K F (.str x) (.str x)
  | lst {a : Addr} {xs : List V} {ds : List PyData} : F a = some (.lst xs) → RpAll K F xs ds → Rp K F (.ref a) (.list ds)
  | tup {a : Addr} {xs : List V} {ds : List PyData} : F a = some (.tup xs) → RpAll K F xs ds → Rp K F (.ref a) (.tuple ds)
  | dicK {a : Addr} {kvs : List (Key × V)} {ds : List (PyData × PyData)} : F a = some (.dK kvs) → RpKV K F (kvs.map fun p => (kD p.1, p.2)) ds → Rp K F (.ref a) (.dict ds)
  | dicT {a : Addr} {kvs : List (List Key × V)} {ds : List (PyData × PyData)} : F a = some (.dT kvs) → RpKV K F (kvs.map fun p => (.tuple (p.1.map kD), p.2)) ds → Rp K F (.ref a) (.dict ds)
inductive RpAll (K : PySem.W.Frag) (F : Hp) : List V → List PyData → Prop
  | nil : RpAll K F [] []
  | cons {v : V} {vs : List V} {d : PyData} {ds : List PyData} : Rp K F v d → RpAll K F vs ds → RpAll K F (v :: vs) (d :: ds)
inductive RpKV (K : PySem.W.Frag) (F : Hp) : List (PyData × V) → List (PyData × PyData) → Prop
  | nil : RpKV K F [] []
  | cons {k : PyData} {v : V} {vs : List (PyData × V)} {d : PyData} {ds : List (PyData × PyData)} : Rp K F v d → RpKV K F vs ds → RpKV K F ((k, v) :: vs) ((k, d) :: ds)
end
mutual
inductive Is (K : PySem.W.Frag) (ρ : List Addr) (F : Hp) : V → W → Prop
  | dat {v : V} {d : PyData} : Rp K F v d → Is K ρ F v (.dat d)
  | loc {a : Addr} {n : Nat} : ρ[n]? = some a → Is K ρ F (.ref a) (.loc n)
  | tw {a : Addr} {vs : List V} {ws : List W} : SqT K F a vs → IsAll K ρ F vs ws → Is K ρ F (.ref a) (.tw ws)
  | lw {a : Addr} {vs : List V} {ws : List W} : SqL K F a vs → IsAll K ρ F vs ws → Is K ρ F (.ref a) (.lw ws)
  | kt {a : Addr} {vs : List V} {ds : List PyData} {o : Obj} : F a = some (.frz o (.tup vs)) → o.cls = .type "tuple" → o.dict = none → RpAll K F vs ds → Is K ρ F (.ref a) (.kt ds)
inductive IsAll (K : PySem.W.Frag) (ρ : List Addr) (F : Hp) : List V → List W → Prop
  | nil : IsAll K ρ F [] []
  | cons {v : V} {vs : List V} {w : W} {ws : List W} : Is K ρ F v w → IsAll K ρ F vs ws → IsAll K ρ F (v :: vs) (w :: ws)
end
inductive IsKV (K : PySem.W.Frag) (ρ : List Addr) (F : Hp) : List (PyData × V) → List (PyData × W) → Prop
  | nil : IsKV K ρ F [] []
  | cons {k : PyData} {v : V} {vs : List (PyData × V)} {w : W} {ws : List (PyData × W)} : Is K ρ F v w → IsKV K ρ F vs ws → IsKV K ρ F ((k, v) :: vs) ((k, w) :: ws)
inductive IsFs (K : PySem.W.Frag) (ρ : List Addr) (F : Hp) : List (Str × V) → List (Str × W) → Prop
  | nil : IsFs K ρ F [] []
  | cons {k : Str} {v : V} {vs : List (Str × V)} {w : W} {ws : List (Str × W)} : Is K ρ F v w → IsFs K ρ F vs ws → IsFs K ρ F ((k, v) :: vs) ((k, w) :: ws)
def CellOk (g : Gx) (ρ : List Addr) (F H : Hp) (a : Addr) : Cell → Prop
  | .lst ws => ∃ vs, H a = some (.lst vs) ∧ IsAll g.K ρ F vs ws
  | .dic ws => (∃ kvs : List (Key × V), H a = some (.dK kvs) ∧ IsKV g.K ρ F (kvs.map fun p => (kD p.1, p.2)) ws) ∨
      ∃ kvs : List (List Key × V), H a = some (.dT kvs) ∧ IsKV g.K ρ F (kvs.map fun p => (.tuple (p.1.map kD), p.2)) ws
  | .ins c fs => ∃ dx gs, H a = some (.ins (g.cls c) dx gs) ∧ IsFs g.K ρ F gs fs
structure Sim (g : Gx) (bs : List Nat) (ρ : List Addr) (F N : Hp) (S : Store) (H : Hp) : Prop where
  len : ρ.length = S.length
  nd : ρ.Nodup
  ex : Same F H
  fr : ∀ a ∈ ρ, F a = none
  cell : ∀ (n : Nat) (c : Cell) (a : Addr), S[n]? = some c → ρ[n]? = some a → CellOk g ρ F H a c
  hid : Same N H
  nf : ∀ a o, N a = some o → F a = none ∧ a ∉ ρ
  nl : ∀ a o, N a = some o → ∃ vs, o = .lst vs
  bot : ∀ b ∈ bs, b ≤ S.length ∧ ∀ (k : Nat) (c : Cell), k < b → S[k]? = some c → c.und b = true
structure Grow (ρ : List Addr) (F : Hp) (ρ' : List Addr) (F' : Hp) : Prop where
  pre : ∃ t, ρ' = ρ ++ t
  ex : Same F F'
theorem Grow.refl (ρ : List Addr) (F : Hp) : Grow ρ F ρ F := ⟨⟨[], by simp⟩, Same.refl F⟩
theorem Grow.trans {ρ ρ1 ρ2 : List Addr} {F F1 F2 : Hp} (a : Grow ρ F ρ1 F1) (b : Grow ρ1 F1 ρ2 F2) : Grow ρ F ρ2 F2 := by
  obtain ⟨⟨t, e⟩, x⟩ := a
  obtain ⟨⟨u, e'⟩, y⟩ := b
  exact ⟨⟨t ++ u, by rw [e', e, List.append_assoc]⟩, x.trans y⟩
theorem Grow.at {ρ ρ' : List Addr} {F F' : Hp} (a : Grow ρ F ρ' F') {n : Nat} {x : Addr} (h : ρ[n]? = some x) : ρ'[n]? = some x := by
  obtain ⟨⟨t, e⟩, _⟩ := a
  subst e
  have hl := (List.getElem?_eq_some_iff.mp h).1
  rw [List.getElem?_append_left hl]
  exact h
theorem Same.sqT {K : PySem.W.Frag} {H H' : Hp} {a : Addr} {xs : List V} (e : Same H H') (h : SqT K H a xs) : SqT K H' a xs := by
  rcases h with (h | ⟨o, h⟩) | h
  · exact .inl (.inl (e _ _ h))
  · exact .inl (.inr ⟨o, e _ _ h⟩)
  · exact .inr h
section
variable {K : PySem.W.Frag} {F F' : Hp} {ρ ρ' : List Addr}
mutual
theorem Rp.mono (e : Same F F') : ∀ {d : PyData} {v : V}, Rp K F v d → Rp K F' v d
  | .none, _, h => by cases h; exact .non
  | .bool b, _, h => by cases h; exact .bl b
  | .int i, _, h => by cases h; exact .int i
  | .str x, _, h => by cases h; exact .str x
  | .list ds, _, h => by
    cases h with
    | lst s r => exact .lst (e _ _ s) (RpAll.mono e r)
  | .tuple ds, _, h => by
    cases h with
    | tup s r => exact .tup (e _ _ s) (RpAll.mono e r)
  | .dict ds, _, h => by
    cases h with
    | dicK s r => exact .dicK (e _ _ s) (RpKV.mono e r)
    | dicT s r => exact .dicT (e _ _ s) (RpKV.mono e r)
theorem RpAll.mono (e : Same F F') : ∀ {ds : List PyData} {vs : List V}, RpAll K F vs ds → RpAll K F' vs ds
  | [], _, h => by cases h; exact .nil
  | d :: ds, _, h => by
    cases h with
    | cons a b => exact .cons (Rp.mono e a) (RpAll.mono e b)
theorem RpKV.mono (e : Same F F') : ∀ {ds : List (PyData × PyData)} {vs : List (PyData × V)}, RpKV K F vs ds → RpKV K F' vs ds
  | [], _, h => by cases h; exact .nil
  | (k, d) :: ds, _, h => by
    cases h with
    | cons a b => exact .cons (Rp.mono e a) (RpKV.mono e b)
end
mutual
theorem Is.mono (gr : Grow ρ F ρ' F') : ∀ {w : W} {v : V}, Is K ρ F v w → Is K ρ' F' v w
  | .dat d, _, h => by
    cases h with
    | dat r => exact .dat (r.mono gr.ex)
  | .loc n, _, h => by
    cases h with
    | loc r => exact .loc (gr.at r)
  | .tw ws, _, h => by
    cases h with
    | tw s r => exact .tw (Same.sqT gr.ex s) (IsAll.mono gr r)
  | .lw ws, _, h => by
    cases h with
    | lw s r => exact .lw (gr.ex.seq s) (IsAll.mono gr r)
  | .kt ds, _, h => by
    cases h with
    | kt s c d r => exact .kt (gr.ex _ _ s) c d (r.mono gr.ex)
theorem IsAll.mono (gr : Grow ρ F ρ' F') : ∀ {ws : List W} {vs : List V}, IsAll K ρ F vs ws → IsAll K ρ' F' vs ws
  | [], _, h => by cases h; exact .nil
  | w :: ws, _, h => by
    cases h with
    | cons a b => exact .cons (Is.mono gr a) (IsAll.mono gr b)
end
theorem IsKV.mono (gr : Grow ρ F ρ' F') : ∀ {ws : List (PyData × W)} {vs : List (PyData × V)}, IsKV K ρ F vs ws → IsKV K ρ' F' vs ws
  | [], _, h => by cases h; exact .nil
  | _ :: _, _, h => by
    cases h with
    | cons a b => exact .cons (a.mono gr) (IsKV.mono gr b)
theorem IsFs.mono (gr : Grow ρ F ρ' F') : ∀ {ws : List (Str × W)} {vs : List (Str × V)}, IsFs K ρ F vs ws → IsFs K ρ' F' vs ws
  | [], _, h => by cases h; exact .nil
  | _ :: _, _, h => by
    cases h with
    | cons a b => exact .cons (a.mono gr) (IsFs.mono gr b)
theorem IsAll.len : ∀ {ws : List W} {vs : List V}, IsAll K ρ F vs ws → vs.length = ws.length
  | [], _, h => by cases h; rfl
  | _ :: _, _, h => by
    cases h with
    | cons a b => simp [IsAll.len b]
theorem RpAll.len : ∀ {ws : List PyData} {vs : List V}, RpAll K F vs ws → vs.length = ws.length
  | [], _, h => by cases h; rfl
  | _ :: _, _, h => by
    cases h with
    | cons a b => simp [RpAll.len b]
theorem IsAll.dats : ∀ {ws : List W} {vs : List V} {ds : List PyData}, IsAll K ρ F vs ws → allDat ws = some ds → RpAll K F vs ds
  | [], _, _, h, e => by cases h; simp [allDat] at e; subst e; exact .nil
  | .dat d :: ws, _, _, h, e => by
    cases h with
    | cons a b =>
      simp only [allDat, Option.map_eq_some_iff] at e
      obtain ⟨ds, e, rfl⟩ := e
      cases a with
      | dat r => exact .cons r (IsAll.dats b e)
  | .loc _ :: _, _, _, _, e => by simp [allDat] at e
  | .tw _ :: _, _, _, _, e => by simp [allDat] at e
  | .lw _ :: _, _, _, _, e => by simp [allDat] at e
  | .kt _ :: _, _, _, _, e => by simp [allDat] at e
theorem RpAll.isAll : ∀ {ds : List PyData} {vs : List V}, RpAll K F vs ds → IsAll K ρ F vs (ds.map .dat)
  | [], _, h => by cases h; exact .nil
  | _ :: _, _, h => by
    cases h with
    | cons a b => exact .cons (.dat a) (RpAll.isAll b)
theorem allDat_map (ds : List PyData) : allDat (ds.map .dat) = some ds := by
  induction ds with
  | nil => rfl
  | cons d ds ih => simp [allDat, ih]
theorem allDat_eq : ∀ {ws : List W} {ds : List PyData}, allDat ws = some ds → ws = ds.map .dat
  | [], _, e => by simp [allDat] at e; subst e; rfl
  | .dat d :: ws, _, e => by
    simp only [allDat, Option.map_eq_some_iff] at e
    obtain ⟨ds, e, rfl⟩ := e
    rw [allDat_eq e]; rfl
  | .loc _ :: _, _, e => by simp [allDat] at e
  | .tw _ :: _, _, e => by simp [allDat] at e
  | .lw _ :: _, _, e => by simp [allDat] at e
  | .kt _ :: _, _, e => by simp [allDat] at e
@[simp] theorem mkTup_dat (ds : List PyData) : mkTup (ds.map .dat) = .dat (.tuple ds) := by simp [mkTup, allDat_map]
@[simp] theorem mkLst_dat (ds : List PyData) : mkLst (ds.map .dat) = .dat (.list ds) := by simp [mkLst, allDat_map]
theorem is_mkLst {a : Addr} {vs : List V} {ws : List W} (s : F a = some (.lst vs)) (r : IsAll K ρ F vs ws) : Is K ρ F (.ref a) (mkLst ws) := by
  unfold mkLst
  split
  · rename_i ds e; exact .dat (.lst s (r.dats e))
  · exact .lw (SqL.of s) r
/-- what is known of a tuple is forgotten -/
def W.weak : W → W
  | .kt ds => .tw (ds.map .dat)
  | w => w
@[simp] theorem W.weak_dat (d : PyData) : (W.dat d).weak = .dat d := rfl
@[simp] theorem W.weak_loc (n : Nat) : (W.loc n).weak = .loc n := rfl
@[simp] theorem W.weak_tw (ws : List W) : (W.tw ws).weak = .tw ws := rfl
@[simp] theorem W.weak_lw (ws : List W) : (W.lw ws).weak = .lw ws := rfl
@[simp] theorem W.weak_kt (ds : List PyData) : (W.kt ds).weak = .tw (ds.map .dat) := rfl
theorem Is.weak {v : V} {w : W} (h : Is K ρ F v w) : Is K ρ F v w.weak := by
  cases w with
  | kt ds =>
    cases h with
    | kt s c d r => exact .tw (.inl (.inr ⟨_, s⟩)) r.isAll
  | dat d => exact h
  | loc n => exact h
  | tw ws => exact h
  | lw ws => exact h
theorem is_mkTup {a : Addr} {vs : List V} {ws : List W} (s : F a = some (.tup vs)) (r : IsAll K ρ F vs ws) : Is K ρ F (.ref a) (mkTup ws) := by
  unfold mkTup
  split
  · rename_i ds e; exact .dat (.tup s (r.dats e))
  · exact .tw (SqT.of s) r
end
/-! ### a new frozen object; a new cell -/
theorem ne_mem {l : List Addr} {a p : Addr} (h : a ∈ l) (n : p ∉ l) : a ≠ p := fun z => n (by rw [← z]; exact h)
theorem same_new {H : Hp} {p : Addr} {o : HO} (h : H p = none) : Same H (upd H p o) := fun a u e => by
  rw [upd_ne (ne_of_none e h)]; exact e
section
variable {g : Gx} {bs : List Nat} {ρ : List Addr} {F N H : Hp} {S : Store}
theorem CellOk.mono {F' H' : Hp} {ρ' : List Addr} {a : Addr} {c : Cell} (gr : Grow ρ F ρ' F') (h : H a = H' a) (x : CellOk g ρ F H a c) : CellOk g ρ' F' H' a c := by
  cases c with
  | lst ws => obtain ⟨vs, e, r⟩ := x; exact ⟨vs, by rw [← h]; exact e, r.mono gr⟩
  | dic ws =>
    rcases x with ⟨k, e, r⟩ | ⟨k, e, r⟩
    · exact .inl ⟨k, by rw [← h]; exact e, r.mono gr⟩
    · exact .inr ⟨k, by rw [← h]; exact e, r.mono gr⟩
  | ins c fs => obtain ⟨dx, gs, e, r⟩ := x; exact ⟨dx, gs, by rw [← h]; exact e, r.mono gr⟩
theorem CellOk.some {a : Addr} {c : Cell} (x : CellOk g ρ F H a c) : ∃ o, H a = some o := by
  cases c with
  | lst ws => obtain ⟨vs, e, r⟩ := x; exact ⟨_, e⟩
  | dic ws =>
    rcases x with ⟨k, e, r⟩ | ⟨k, e, r⟩
    · exact ⟨_, e⟩
    · exact ⟨_, e⟩
  | ins c fs => obtain ⟨dx, gs, e, r⟩ := x; exact ⟨_, e⟩
theorem Sim.has (s : Sim g bs ρ F N S H) {a : Addr} (ha : a ∈ ρ) : ∃ o, H a = some o := by
  obtain ⟨n, hn, e⟩ := List.mem_iff_getElem.mp ha
  have hn' : n < S.length := by rw [← s.len]; exact hn
  exact (s.cell n S[n] a (by simp [hn']) (by rw [List.getElem?_eq_getElem hn, e])).some
theorem Sim.frozen (s : Sim g bs ρ F N S H) {p : Addr} {o : HO} (hp : H p = none) : Sim g bs ρ (upd F p o) N S (upd H p o) ∧ Grow ρ F ρ (upd F p o) := by
  have fp : F p = none := s.ex.free hp
  have np : p ∉ ρ := fun z => by obtain ⟨o, e⟩ := s.has z; rw [hp] at e; cases e
  have gr : Grow ρ F ρ (upd F p o) := ⟨⟨[], by simp⟩, same_new fp⟩
  have np2 : ∀ a o, N a = some o → a ≠ p := fun a u e z => by subst z; rw [s.hid a u e] at hp; cases hp
  refine ⟨⟨s.len, s.nd, fun a u e => ?_, fun a ha => ?_, fun n c a e1 e2 => ?_, fun a u e => ?_, fun a u e => ?_, s.nl, s.bot⟩, gr⟩
  rotate_left 3
  · rw [upd_ne (np2 a u e)]; exact s.hid a u e
  · rw [upd_ne (np2 a u e)]; exact s.nf a u e
  · by_cases h : a = p
    · subst h; rw [upd_same] at e ⊢; exact e
    · rw [upd_ne h] at e ⊢; exact s.ex a u e
  · rw [upd_ne (ne_mem ha np)]; exact s.fr a ha
  · have ha : a ∈ ρ := List.mem_of_getElem? e2
    exact (s.cell n c a e1 e2).mono gr (by rw [upd_ne (ne_mem ha np)])
/-- another heap with the same cells and all that is frozen -/
theorem Sim.heap {H' : Hp} (s : Sim g bs ρ F N S H) (k : Same H H') : Sim g bs ρ F N S H' :=
  ⟨s.len, s.nd, s.ex.trans k, s.fr, fun n c a e1 e2 => by
    have x := s.cell n c a e1 e2
    obtain ⟨o, e⟩ := x.some
    exact x.mono (Grow.refl ρ F) (by rw [e, k a o e]), s.hid.trans k, s.nf, s.nl, s.bot⟩
theorem Sim.newCell {p : Addr} {o : HO} {c : Cell} (s : Sim g bs ρ F N S H) (hp : H p = none) (hc : CellOk g (ρ ++ [p]) F (upd H p o) p c) :
    Sim g bs (ρ ++ [p]) F N (S ++ [c]) (upd H p o) ∧ Grow ρ F (ρ ++ [p]) F := by
  have fp : F p = none := s.ex.free hp
  have np : p ∉ ρ := fun z => by obtain ⟨o, e⟩ := s.has z; rw [hp] at e; cases e
  have gr : Grow ρ F (ρ ++ [p]) F := ⟨⟨[p], rfl⟩, Same.refl F⟩
  have np2 : ∀ a o, N a = some o → a ≠ p := fun a u e z => by subst z; rw [s.hid a u e] at hp; cases hp
  refine ⟨⟨by simp [s.len], ?_, fun a u e => ?_, fun a ha => ?_, fun n c' a e1 e2 => ?_, fun a u e => ?_, fun a u e => ?_, s.nl, fun b hb => ?_⟩, gr⟩
  rotate_left 4
  · rw [upd_ne (np2 a u e)]; exact s.hid a u e
  · refine ⟨(s.nf a u e).1, fun ha => ?_⟩
    rcases List.mem_append.mp ha with ha | ha
    · exact (s.nf a u e).2 ha
    · simp at ha; exact np2 a u e ha
  rotate_left 1
  · rw [List.nodup_append]; exact ⟨s.nd, by simp, fun a ha b hb z => by simp at hb; subst hb; subst z; exact np ha⟩
  · have h : a ≠ p := fun z => by subst z; rw [fp] at e; cases e
    rw [upd_ne h]; exact s.ex a u e
  · rcases List.mem_append.mp ha with ha | ha
    · exact s.fr a ha
    · simp at ha; subst ha; exact fp
  · by_cases hn : n < S.length
    · rw [List.getElem?_append_left hn] at e1
      rw [List.getElem?_append_left (by rw [s.len]; exact hn)] at e2
      have ha : a ∈ ρ := List.mem_of_getElem? e2
      exact (s.cell n c' a e1 e2).mono gr (by rw [upd_ne (ne_mem ha np)])
    · have hl := (List.getElem?_eq_some_iff.mp e1).1
      have e : n = S.length := by simp at hl; omega
      subst e
      simp at e1
      rw [← s.len] at e2; simp at e2
      subst e1; subst e2
      exact hc
  · obtain ⟨h1, h2⟩ := s.bot b hb
    refine ⟨by simp; omega, fun k c' hk e => h2 k c' hk ?_⟩
    rw [List.getElem?_append_left (by omega)] at e
    exact e
/-- a cell is written -/
theorem Sim.write {n : Nat} {a : Addr} {o : HO} {c : Cell} (s : Sim g bs ρ F N S H) (hn : ρ[n]? = some a) (hc : CellOk g ρ F (upd H a o) a c) (hb : ∀ b ∈ bs, n < b → c.und b = true) :
    Sim g bs ρ F N (S.set n c) (upd H a o) := by
  have fa : F a = none := s.fr a (List.mem_of_getElem? hn)
  have hl := (List.getElem?_eq_some_iff.mp hn).1
  refine ⟨by simp [s.len], s.nd, fun b u e => ?_, s.fr, fun m c' b e1 e2 => ?_, fun b u e => ?_, s.nf, s.nl, fun b hb' => ?_⟩
  rotate_left 2
  · have h : b ≠ a := fun z => by subst z; exact (s.nf b u e).2 (List.mem_of_getElem? hn)
    rw [upd_ne h]; exact s.hid b u e
  rotate_left 1
  · have h : b ≠ a := fun z => by subst z; rw [fa] at e; cases e
    rw [upd_ne h]; exact s.ex b u e
  · by_cases hm : m = n
    · subst hm
      rw [hn] at e2; cases e2
      rw [List.getElem?_set_self (by rw [← s.len]; exact hl)] at e1
      cases e1
      exact hc
    · rw [List.getElem?_set_ne (Ne.symm hm)] at e1
      have ne : b ≠ a := fun z => by
        subst z
        exact hm (nodup_ixA s.nd e2 hn)
      exact (s.cell m c' b e1 e2).mono (Grow.refl ρ F) (by rw [upd_ne ne])
  · obtain ⟨h1, h2⟩ := s.bot b hb'
    refine ⟨by simpa using h1, fun k c' hk e => ?_⟩
    by_cases hm : k = n
    · subst hm
      rw [List.getElem?_set_self (by rw [← s.len]; exact hl)] at e
      cases e
      exact hb b hb' hk
    · rw [List.getElem?_set_ne (Ne.symm hm)] at e
      exact h2 k c' hk e
where
  nodup_ixA {l : List Addr} (nd : l.Nodup) {i j : Nat} {x : Addr} (a : l[i]? = some x) (b : l[j]? = some x) : i = j := by
    obtain ⟨h1, e1⟩ := List.getElem?_eq_some_iff.mp a
    obtain ⟨h2, e2⟩ := List.getElem?_eq_some_iff.mp b
    exact (List.getElem_inj nd).mp (e1.trans e2.symm)
end
end Rf

set_option maxHeartbeats 4000000
namespace Rf
open PySem L2

theorem _root_.L2.PE.imp {X : Cx} {e : Expr} {t t' : TE} (h : PE X e t) (i : ∀ σ H Q, t' σ H Q → t σ H Q) : PE X e t' := ⟨fun pins s σ H Q I q => h.run pins s σ H Q I (i σ H Q q)⟩
theorem _root_.L2.PT.imp {X : Cx} {e : Expr} {t t' : TT} (h : PT X e t) (i : ∀ σ H Q, t' σ H Q → t σ H Q) : PT X e t' := ⟨fun pins s σ H Q I q => h.run pins s σ H Q I (i σ H Q q)⟩
theorem _root_.L2.PW.imp {X : Cx} {e : Expr} {t t' : TT} (h : PW X e t) (i : ∀ σ H Q, t' σ H Q → t σ H Q) : PW X e t' := ⟨fun wh pins s σ H Q I q => h.run wh pins s σ H Q I (i σ H Q q)⟩
theorem _root_.L2.PA.imp {X : Cx} {es : List Expr} {t t' : TA} (h : PA X es t) (i : ∀ σ H Q, t' σ H Q → t σ H Q) : PA X es t' := ⟨fun pos pins s σ H Q I q => h.run pos pins s σ H Q I (i σ H Q q)⟩
theorem _root_.L2.PS.imp {X : Cx} {st : Stmt} {t t' : TS} (h : PS X st t) (i : ∀ D σ H, t' D σ H → t D σ H) : PS X st t' := ⟨fun pins s σ H D I q => h.run pins s σ H D I (i D σ H q)⟩
theorem _root_.L2.PSs.imp {X : Cx} {st : List Stmt} {t t' : TS} (h : PSs X st t) (i : ∀ D σ H, t' D σ H → t D σ H) : PSs X st t' := ⟨fun pins s σ H D I q => h.run pins s σ H D I (i D σ H q)⟩
theorem _root_.L2.PG.imp {X : Cx} {tg : Expr} {t t' : TG} (h : PG X tg t) (i : ∀ v σ H Q, t' v σ H Q → t v σ H Q) : PG X tg t' := ⟨fun pins s σ H v u Q I r q => h.run pins s σ H v u Q I r (i v σ H Q q)⟩
theorem _root_.L2.PI.imp {X : Cx} {tg it : Expr} {t t' : TI} (h : PI X tg it t) (i : ∀ σ H R, t' σ H R → t σ H R) : PI X tg it t' := ⟨fun pins s σ H R I q => h.run pins s σ H R I (i σ H R q)⟩

structure EnvR (g : Gx) (ρ : List Addr) (F : Hp) (σ : St) (env : Env) : Prop where
  len : σ.length = env.length
  at_ : ∀ (i : Nat) (w : W), env[i]? = some (some w) → ∃ v, σ[i]? = some (some v) ∧ Is g.K ρ F v w
theorem EnvR.mono {g : Gx} {ρ ρ' : List Addr} {F F' : Hp} {σ : St} {env : Env} (gr : Grow ρ F ρ' F') (e : EnvR g ρ F σ env) : EnvR g ρ' F' σ env :=
  ⟨e.len, fun i w h => let ⟨v, a, b⟩ := e.at_ i w h; ⟨v, a, b.mono gr⟩⟩
theorem EnvR.set {g : Gx} {ρ : List Addr} {F : Hp} {σ : St} {env : Env} {v : V} {w : W} (e : EnvR g ρ F σ env) (i : Nat) (h : Is g.K ρ F v w) : EnvR g ρ F (σ.set i (some v)) (env.set i (some w)) := by
  refine ⟨by simp [e.len], fun j x hj => ?_⟩
  by_cases z : i = j
  · subst z
    have hl := (List.getElem?_eq_some_iff.mp hj).1
    simp only [List.length_set] at hl
    rw [List.getElem?_set_self hl] at hj
    cases hj
    exact ⟨v, List.getElem?_set_self (by rw [e.len]; exact hl), h⟩
  · rw [List.getElem?_set_ne z] at hj ⊢
    exact e.at_ j x hj
def ExR (g : Gx) (c : Nat) (ρ : List Addr) (F H : Hp) (d : Option Addr) : List W → Prop
  | [] => d = none
  | w :: _ => ∃ a v, d = some a ∧ H a = some (.xd [(g.fld c, v)]) ∧ Is g.K ρ F v w
/-- what an outcome must lead to -/
def Post {α β : Type} (g : Gx) (B : WX) (R : List Addr → Hp → β → α → Prop) (bs : List Nat) (ρ : List Addr) (F N : Hp) (σ : St) (Q : β → Hp → Prop) : Out α → Prop
  | .ok w S' => ∀ ρ' F' H' v, Grow ρ F ρ' F' → Sim g bs ρ' F' N S' H' → R ρ' F' v w → Q v H'
  | .ex c ws S' => ∀ ρ' F' H' d, Grow ρ F ρ' F' → Sim g bs ρ' F' N S' H' → ExR g c ρ' F' H' d ws → B (.ref (g.cls c)) d σ H'
  | .stuck => False
def rdG {α β : Type} (g : Gx) (B : WX) (R : List Addr → Hp → β → α → Prop) (m : M α) : St → Hp → (β → Hp → Prop) → Prop := fun σ H Q =>
  ∃ bs ρ F N env S, Sim g bs ρ F N S H ∧ EnvR g ρ F σ env ∧ Post g B R bs ρ F N σ Q (m bs env S)
abbrev RW (g : Gx) : List Addr → Hp → V → W → Prop := fun ρ F v w => Is g.K ρ F v w
abbrev RWs (g : Gx) : List Addr → Hp → List V → List W → Prop := fun ρ F v w => IsAll g.K ρ F v w
abbrev RB : List Addr → Hp → Bool → Bool → Prop := fun _ _ a b => a = b
abbrev rd (g : Gx) (B : WX) (m : M W) : TE := rdG g B (RW g) m
abbrev rdT (g : Gx) (B : WX) (m : M Bool) : TT := rdG g B RB m
abbrev rdA (g : Gx) (B : WX) (m : M (List W)) : TA := rdG g B (RWs g) m
theorem Post.grow {α β : Type} {g : Gx} {B : WX} {R : List Addr → Hp → β → α → Prop} {bs : List Nat} {ρ ρ1 : List Addr} {F F1 N : Hp} {σ : St} {Q : β → Hp → Prop} {o : Out α} (gr : Grow ρ F ρ1 F1) (h : Post g B R bs ρ F N σ Q o) : Post g B R bs ρ1 F1 N σ Q o := by
  cases o with
  | ok a S => exact fun ρ' F' H' v g1 s r => h ρ' F' H' v (gr.trans g1) s r
  | ex c ws S => exact fun ρ' F' H' d g1 s r => h ρ' F' H' d (gr.trans g1) s r
  | stuck => exact h
theorem Post.imp {α β : Type} {g : Gx} {B : WX} {R : List Addr → Hp → β → α → Prop} {bs : List Nat} {ρ : List Addr} {F N : Hp} {σ : St} {Q Q' : β → Hp → Prop} {o : Out α} (h : Post g B R bs ρ F N σ Q o) (i : ∀ v H, Q v H → Q' v H) : Post g B R bs ρ F N σ Q' o := by
  cases o with
  | ok a S => exact fun ρ' F' H' v g1 s r => i _ _ (h ρ' F' H' v g1 s r)
  | ex c ws S => exact h
  | stuck => exact h
/-- one after another -/
theorem Post.bind {α β γ δ : Type} {g : Gx} {B : WX} {R1 : List Addr → Hp → β → α → Prop} {R2 : List Addr → Hp → δ → γ → Prop} {bs : List Nat} {ρ : List Addr} {F N : Hp} {σ : St} {Q : δ → Hp → Prop} {o : Out α} {f : α → Store → Out γ}
    (h : Post g B R2 bs ρ F N σ Q (o.bind f)) :
    Post g B R1 bs ρ F N σ (fun v H1 => ∃ ρ' F' a S', Grow ρ F ρ' F' ∧ Sim g bs ρ' F' N S' H1 ∧ R1 ρ' F' v a ∧ Post g B R2 bs ρ' F' N σ Q (f a S')) o := by
  cases o with
  | ok a S1 => exact fun ρ' F' H' v gr s' r => ⟨ρ', F', a, S1, gr, s', r, Post.grow gr h⟩
  | ex c ws S1 => exact h
  | stuck => exact h

/-! ### names, constants -/
def mVar (i : Nat) : M W := fun _ env S => match env[i]? with
  | some (some w) => .ok w.weak S
  | _ => .stuck
/-- with all that is known of it -/
def mVarK (i : Nat) : M W := fun _ env S => match env[i]? with
  | some (some w) => .ok w S
  | _ => .stuck
def mCon (d : PyData) : M W := fun _ _ S => .ok (.dat d) S
section
variable {X : Cx} {g : Gx} {B : WX}
theorem rd_var {i : Nat} (σ : St) (H : Hp) (Q : VK) (h : rd g B (mVar i) σ H Q) : tVar i σ H Q := by
  obtain ⟨bs, ρ, F, N, env, S, s, e, p⟩ := h
  unfold mVar at p
  split at p
  · rename_i w hw
    obtain ⟨v, h1, h2⟩ := e.at_ i w hw
    exact ⟨v, h1, p ρ F H v (Grow.refl _ _) s h2.weak⟩
  · exact p.elim
theorem rd_varK {i : Nat} (σ : St) (H : Hp) (Q : VK) (h : rd g B (mVarK i) σ H Q) : tVar i σ H Q := by
  obtain ⟨bs, ρ, F, N, env, S, s, e, p⟩ := h
  unfold mVarK at p
  split at p
  · rename_i w hw
    obtain ⟨v, h1, h2⟩ := e.at_ i w hw
    exact ⟨v, h1, p ρ F H v (Grow.refl _ _) s h2⟩
  · exact p.elim
theorem re_varK {i : Nat} {x : Str} {pos : Pos} (hN : X.N[i]? = some x := by rfl) (hv : Vis X.env.scope x := by first | exact Or.inl rfl | exact Or.inr (Or.inl rfl) | exact Or.inr (Or.inr rfl)) (hd : (x == ("__debug__" : Str)) = false := by decide)
    (hcd : (x == ("__classdict__" : Str)) = false := by decide) : PE X (.Name x pos) (rd g B (mVarK i)) := (pe_var hN hv hd hcd).imp rd_varK
theorem re_var {i : Nat} {x : Str} {pos : Pos} (hN : X.N[i]? = some x := by rfl) (hv : Vis X.env.scope x := by first | exact Or.inl rfl | exact Or.inr (Or.inl rfl) | exact Or.inr (Or.inr rfl)) (hd : (x == ("__debug__" : Str)) = false := by decide)
    (hcd : (x == ("__classdict__" : Str)) = false := by decide) : PE X (.Name x pos) (rd g B (mVar i)) := (pe_var hN hv hd hcd).imp rd_var
theorem rd_con {d : PyData} {v : V} (hr : ∀ F, Rp g.K F v d) (σ : St) (H : Hp) (Q : VK) (h : rd g B (mCon d) σ H Q) : tC v σ H Q := by
  obtain ⟨bs, ρ, F, N, env, S, s, e, p⟩ := h
  exact p ρ F H v (Grow.refl _ _) s (.dat (hr F))
theorem re_int {i : Int} {j pos} : PE X (.Constant (.int i) j pos) (rd g B (mCon (.int i))) := pe_int.imp (rd_con fun _ => .int i)
theorem re_bl {b : Bool} {j pos} : PE X (.Constant (.bool b) j pos) (rd g B (mCon (.bool b))) := pe_bl.imp (rd_con fun _ => .bl b)
theorem re_non {j pos} : PE X (.Constant .none j pos) (rd g B (mCon .none)) := pe_non.imp (rd_con fun _ => .non)
theorem re_str {x : Str} {j pos} : PE X (.Constant (.str x) j pos) (rd g B (mCon (.str x))) := pe_str.imp (rd_con fun _ => .str x)
theorem re_glob {x : Str} {v : V} {u : Value} {d : PyData} {pos : Pos} (hg : Gl X x) (hm : X.mg x = some u) (r : RelV v u) (hr : ∀ F, Rp g.K F v d) (hd : (x == ("__debug__" : Str)) = false := by decide) : PE X (.Name x pos) (rd g B (mCon d)) :=
  (pe_glob hg hm r hd).imp (rd_con hr)

/-! ### operations on two values -/
abbrev Op2 := List Nat → W → W → Store → Option (W × Store)
def mBin (f : Op2) (ma mb : M W) : M W := fun bs env S => (ma bs env S).bind fun x S1 => (mb bs env S1).bind fun y S2 => match f bs x y S2 with
  | some (w, S3) => .ok w S3
  | none => .stuck
def PostV (g : Gx) (bs : List Nat) (ρ : List Addr) (F N : Hp) (Q : VK) : Option (W × Store) → Prop
  | some (w, S') => ∀ ρ' F' H' v, Grow ρ F ρ' F' → Sim g bs ρ' F' N S' H' → Is g.K ρ' F' v w → Q v H'
  | none => False
def rd2 (g : Gx) (f : Op2) : R2 := fun x y H Q => ∃ bs ρ F N S wx wy, Sim g bs ρ F N S H ∧ Is g.K ρ F x wx ∧ Is g.K ρ F y wy ∧ PostV g bs ρ F N Q (f bs wx wy S)
theorem post_op {o : Option (W × Store)} {bs : List Nat} {ρ : List Addr} {F N : Hp} {σ : St} {Q : VK} (p : Post g B (RW g) bs ρ F N σ Q (match o with
    | some (w, S3) => .ok w S3
    | none => .stuck)) : PostV g bs ρ F N Q o := by
  cases o with
  | none => exact p
  | some q => exact p
theorem rd_bin {f : Op2} {ma mb : M W} (σ : St) (H : Hp) (Q : VK) (h : rd g B (mBin f ma mb) σ H Q) : tOp (rd2 g f) (rd g B ma) (rd g B mb) σ H Q := by
  obtain ⟨bs, ρ, F, N, env, S, s, e, p⟩ := h
  refine ⟨bs, ρ, F, N, env, S, s, e, (Post.bind p).imp fun x H1 ⟨ρ1, F1, wx, S1, g1, s1, r1, p1⟩ => ?_⟩
  refine ⟨bs, ρ1, F1, N, env, S1, s1, e.mono g1, (Post.bind p1).imp fun y H2 ⟨ρ2, F2, wy, S2, g2, s2, r2, p2⟩ => ?_⟩
  exact ⟨bs, ρ2, F2, N, S2, wx, wy, s2, r1.mono g2, r2, post_op p2⟩
variable {a b c e : Expr} {ma mb mc : M W} {pos : Pos} {f f' : Op2}
theorem re_bin {op : Operator} (ho : OpR X (binaryOp op) (rd2 g f)) (ha : PE X a (rd g B ma)) (hb : PE X b (rd g B mb)) : PE X (.BinOp a op b pos) (rd g B (mBin f ma mb)) := (pe_op ho ha hb).imp rd_bin
theorem re_cmp {op : CmpOp} (ho : OpR X (compareOp op) (rd2 g f)) (ha : PE X a (rd g B ma)) (hb : PE X b (rd g B mb)) (hm : behindInMarks op b = false := by first | exact nomark _ | rfl) : PE X (.Compare a [op] [b] pos) (rd g B (mBin f ma mb)) := (pe_cmpR ho ha hb hm).imp rd_bin
/-! ### tests -/
/-- the value as a truth, when it is a bool -/
def mB (m : M W) : M Bool := fun bs env S => (m bs env S).bind fun w S1 => match w with
  | .dat (.bool b) => .ok b S1
  | _ => .stuck
theorem is_bl {K : PySem.W.Frag} {ρ : List Addr} {F : Hp} {v : V} {b : Bool} (h : Is K ρ F v (.dat (.bool b))) : v = .bl b := by
  cases h with
  | dat r => cases r; rfl
theorem is_int {K : PySem.W.Frag} {ρ : List Addr} {F : Hp} {v : V} {b : Int} (h : Is K ρ F v (.dat (.int b))) : v = .int b := by
  cases h with
  | dat r => cases r; rfl
theorem is_str {K : PySem.W.Frag} {ρ : List Addr} {F : Hp} {v : V} {b : Str} (h : Is K ρ F v (.dat (.str b))) : v = .str b := by
  cases h with
  | dat r => cases r; rfl
theorem is_non {K : PySem.W.Frag} {ρ : List Addr} {F : Hp} {v : V} (h : Is K ρ F v (.dat .none)) : v = .non := by
  cases h with
  | dat r => cases r; rfl
theorem rd_B {m : M W} {σ : St} {H : Hp} {Q : Bool → Hp → Prop} (h : rdT g B (mB m) σ H Q) : rd g B m σ H (fun x H1 => ∃ k, x = .bl k ∧ Q k H1) := by
  obtain ⟨bs, ρ, F, N, env, S, s, e, p⟩ := h
  refine ⟨bs, ρ, F, N, env, S, s, e, (Post.bind (R1 := RW g) p).imp fun x H1 ⟨ρ1, F1, wx, S1, g1, s1, r1, p1⟩ => ?_⟩
  split at p1
  · have ev := is_bl r1
    subst ev
    exact ⟨_, rfl, p1 ρ1 F1 H1 _ (Grow.refl _ _) s1 rfl⟩
  · exact p1.elim
theorem rt_cmp {op : CmpOp} (ho : OpR X (compareOp op) (rd2 g f)) (ha : PE X a (rd g B ma)) (hb : PE X b (rd g B mb)) (hm : behindInMarks op b = false := by first | exact nomark _ | rfl) : PT X (.Compare a [op] [b] pos) (rdT g B (mB (mBin f ma mb))) :=
  (pt_cmpR ho ha hb hm).imp fun σ H Q h => rd_bin σ H _ (rd_B h)
theorem rt_val (h : PE X e (rd g B ma)) (he : ∀ whole, isTrue e X.env whole = (do let v ← whole; standAt e.pos; holding [v] (truthy v)) := by intro _; rfl) : PT X e (rdT g B (mB ma)) :=
  (pt_val h he).imp fun σ H Q h => rd_B h
def mNot (m : M Bool) : M Bool := fun bs env S => (m bs env S).bind fun b S1 => .ok (!b) S1
theorem rd_not {m : M Bool} (σ : St) (H : Hp) (Q : Bool → Hp → Prop) (h : rdT g B (mNot m) σ H Q) : tNot (rdT g B m) σ H Q := by
  obtain ⟨bs, ρ, F, N, env, S, s, e, p⟩ := h
  refine ⟨bs, ρ, F, N, env, S, s, e, (Post.bind (R1 := RB) p).imp fun x H1 ⟨ρ1, F1, wx, S1, g1, s1, r1, p1⟩ => ?_⟩
  cases r1
  exact p1 ρ1 F1 H1 _ (Grow.refl _ _) s1 rfl
theorem rt_not {m : M Bool} (h : PT X a (rdT g B m)) : PT X (.UnaryOp .Not a pos) (rdT g B (mNot m)) := (pt_not h).imp rd_not
def mIf {α : Type} (t : M Bool) (m n : M α) : M α := fun bs env S => (t bs env S).bind fun b S1 => if b = true then m bs env S1 else n bs env S1
theorem rd_if {α β : Type} {R : List Addr → Hp → β → α → Prop} {t : M Bool} {m n : M α} (σ : St) (H : Hp) (Q : β → Hp → Prop) (h : rdG g B R (mIf t m n) σ H Q) :
    rdT g B t σ H fun c H1 => if c = true then rdG g B R m σ H1 Q else rdG g B R n σ H1 Q := by
  obtain ⟨bs, ρ, F, N, env, S, s, e, p⟩ := h
  refine ⟨bs, ρ, F, N, env, S, s, e, (Post.bind (R1 := RB) p).imp fun x H1 ⟨ρ1, F1, wx, S1, g1, s1, r1, p1⟩ => ?_⟩
  cases r1
  cases x with
  | true => exact ⟨bs, ρ1, F1, N, env, S1, s1, e.mono g1, p1⟩
  | false => exact ⟨bs, ρ1, F1, N, env, S1, s1, e.mono g1, p1⟩
theorem rdG_imp {α β : Type} {R : List Addr → Hp → β → α → Prop} {m : M α} {σ : St} {H : Hp} {Q Q' : β → Hp → Prop} (h : rdG g B R m σ H Q) (i : ∀ v H, Q v H → Q' v H) : rdG g B R m σ H Q' := by
  obtain ⟨bs, ρ, F, N, env, S, s, e, p⟩ := h
  exact ⟨bs, ρ, F, N, env, S, s, e, p.imp i⟩
abbrev mAnd (t u : M Bool) : M Bool := mIf t u (fun _ _ S => .ok false S)
abbrev mOr (t u : M Bool) : M Bool := mIf t (fun _ _ S => .ok true S) u
theorem rd_ok {α β : Type} {R : List Addr → Hp → β → α → Prop} {x : α} {y : β} (hr : ∀ ρ F, R ρ F y x) (σ : St) (H : Hp) (Q : β → Hp → Prop) (h : rdG g B R (fun _ _ S => .ok x S) σ H Q) : Q y H := by
  obtain ⟨bs, ρ, F, N, env, S, s, e, p⟩ := h
  exact p ρ F H y (Grow.refl _ _) s (hr ρ F)
theorem rd_and {t u : M Bool} (σ : St) (H : Hp) (Q : Bool → Hp → Prop) (h : rdT g B (mAnd t u) σ H Q) : tAnd (rdT g B t) (rdT g B u) σ H Q :=
  rdG_imp (rd_if σ H Q h) fun c H1 q => by
    cases c with
    | true => exact q
    | false => exact rd_ok (R := RB) (y := false) (fun _ _ => rfl) σ H1 Q q
theorem rd_or {t u : M Bool} (σ : St) (H : Hp) (Q : Bool → Hp → Prop) (h : rdT g B (mOr t u) σ H Q) : tOr (rdT g B t) (rdT g B u) σ H Q :=
  rdG_imp (rd_if σ H Q h) fun c H1 q => by
    cases c with
    | true => exact rd_ok (R := RB) (y := true) (fun _ _ => rfl) σ H1 Q q
    | false => exact q
theorem rw_and1 {m : M Bool} (h : PT X a (rdT g B m)) : PW X (.BoolOp .And [a] pos) (rdT g B m) := pw_and1 h
theorem rw_or1 {m : M Bool} (h : PT X a (rdT g B m)) : PW X (.BoolOp .Or [a] pos) (rdT g B m) := pw_or1 h
theorem rw_and {m n : M Bool} {rest : List Expr} (h : PT X a (rdT g B m)) (k : PW X (.BoolOp .And (b :: rest) pos) (rdT g B n)) : PW X (.BoolOp .And (a :: b :: rest) pos) (rdT g B (mAnd m n)) := (pw_and h k).imp rd_and
theorem rw_or {m n : M Bool} {rest : List Expr} (h : PT X a (rdT g B m)) (k : PW X (.BoolOp .Or (b :: rest) pos) (rdT g B n)) : PW X (.BoolOp .Or (a :: b :: rest) pos) (rdT g B (mOr m n)) := (pw_or h k).imp rd_or
theorem re_ife {m : M Bool} (ht : PT X c (rdT g B m)) (ha : PE X a (rd g B ma)) (hb : PE X b (rd g B mb)) : PE X (.IfExp c a b pos) (rd g B (mIf m ma mb)) := (pe_ifExp ht ha hb).imp fun σ H Q h => rd_if σ H Q h
end
end Rf

set_option maxHeartbeats 4000000
namespace Rf
open PySem L2

/-! ### new lists: frozen, or a cell -/
def newL (k : Bool) (ws : List W) (S : Store) : W × Store := if k then (.loc S.length, S ++ [.lst ws]) else (mkLst ws, S)
section
variable {g : Gx} {bs : List Nat} {ρ : List Addr} {F N H : Hp} {S : Store}
theorem new_ok {k : Bool} {p : Addr} {vs : List V} {ws : List W} {Q : VK} (s : Sim g bs ρ F N S H) (hp : H p = none) (r : IsAll g.K ρ F vs ws)
    (h : ∀ ρ' F' H' v, Grow ρ F ρ' F' → Sim g bs ρ' F' N (newL k ws S).2 H' → Is g.K ρ' F' v (newL k ws S).1 → Q v H') : Q (.ref p) (upd H p (.lst vs)) := by
  cases k with
  | true =>
    obtain ⟨s', gr⟩ := s.newCell (c := .lst ws) (o := .lst vs) hp ⟨vs, upd_same, r.mono ⟨⟨[p], rfl⟩, Same.refl F⟩⟩
    refine h _ _ _ _ gr s' (.loc ?_)
    show (ρ ++ [p])[S.length]? = some p
    rw [← s.len]; simp
  | false =>
    obtain ⟨s', gr⟩ := s.frozen (o := .lst vs) hp
    exact h _ _ _ _ gr s' (is_mkLst upd_same (r.mono gr))
theorem newT_ok {p : Addr} {vs : List V} {ws : List W} {Q : VK} (s : Sim g bs ρ F N S H) (hp : H p = none) (r : IsAll g.K ρ F vs ws)
    (h : ∀ ρ' F' H' v, Grow ρ F ρ' F' → Sim g bs ρ' F' N S H' → Is g.K ρ' F' v (mkTup ws) → Q v H') : Q (.ref p) (upd H p (.tup vs)) := by
  obtain ⟨s', gr⟩ := s.frozen (o := .tup vs) hp
  exact h _ _ _ _ gr s' (is_mkTup upd_same (r.mono gr))
end

/-! ### arguments, tuples, lists -/
def mNil : M (List W) := fun _ _ S => .ok [] S
def mCons (m : M W) (ms : M (List W)) : M (List W) := fun bs env S => (m bs env S).bind fun w S1 => (ms bs env S1).bind fun ws S2 => .ok (w :: ws) S2
def mTup (ms : M (List W)) : M W := fun bs env S => (ms bs env S).bind fun ws S1 => if ws.length ≤ 100000 then .ok (mkTup ws) S1 else .stuck
def mLst (k : Bool) (ms : M (List W)) : M W := fun bs env S => (ms bs env S).bind fun ws S1 => if ws.length ≤ 100000 then .ok (newL k ws S1).1 (newL k ws S1).2 else .stuck
theorem line5 {n : Nat} (h : n ≤ 100000) : n ≤ sizeLine := Nat.le_trans h (by decide)
section
variable {X : Cx} {g : Gx} {B : WX} {a b c e : Expr} {es : List Expr} {ma mb mc : M W} {ms : M (List W)} {pos : Pos} {f f' : Op2}
theorem ra_nil : PA X [] (rdA g B mNil) := pa_nil.imp fun σ H Q ⟨bs, ρ, F, N, env, S, s, e, p⟩ => p ρ F H [] (Grow.refl _ _) s .nil
theorem ra_cons (ha : PE X e (rd g B ma)) (hr : PA X es (rdA g B ms)) (hs : starEach (e :: es) X.env = (false, eval e X.env) :: starEach es X.env := by rfl) : PA X (e :: es) (rdA g B (mCons ma ms)) :=
  (pa_cons ha hr hs).imp fun σ H Q ⟨bs, ρ, F, N, env, S, s, e, p⟩ => by
    refine ⟨bs, ρ, F, N, env, S, s, e, (Post.bind p).imp fun x H1 ⟨ρ1, F1, wx, S1, g1, s1, r1, p1⟩ => ?_⟩
    refine ⟨bs, ρ1, F1, N, env, S1, s1, e.mono g1, (Post.bind p1).imp fun y H2 ⟨ρ2, F2, wy, S2, g2, s2, r2, p2⟩ => ?_⟩
    exact p2 ρ2 F2 H2 _ (Grow.refl _ _) s2 (.cons (r1.mono g2) r2)
theorem re_tup {x1} (h : PA X es (rdA g B ms)) : PE X (.Tuple es x1 pos) (rd g B (mTup ms)) := (pe_tup h).imp fun σ H Q ⟨bs, ρ, F, N, env, S, s, e, p⟩ => by
  refine ⟨bs, ρ, F, N, env, S, s, e, (Post.bind p).imp fun x H1 ⟨ρ1, F1, wx, S1, g1, s1, r1, p1⟩ => ?_⟩
  split at p1
  · rename_i hl
    refine ⟨line5 (by rw [r1.len]; exact hl), fun q hq => newT_ok s1 hq r1 p1⟩
  · exact p1.elim
theorem re_lst {k : Bool} (h : PA X es (rdA g B ms)) : PE X (.List es pos) (rd g B (mLst k ms)) := (pe_lst h).imp fun σ H Q ⟨bs, ρ, F, N, env, S, s, e, p⟩ => by
  refine ⟨bs, ρ, F, N, env, S, s, e, (Post.bind p).imp fun x H1 ⟨ρ1, F1, wx, S1, g1, s1, r1, p1⟩ => ?_⟩
  split at p1
  · rename_i hl
    refine ⟨line5 (by rw [r1.len]; exact hl), fun q hq => new_ok s1 hq r1 p1⟩
  · exact p1.elim

/-! ### views -/
/-- the items of a tuple, of a list -/
def tupOf : W → Option (List W)
  | .dat (.tuple ds) => some (ds.map .dat)
  | .tw ws => some ws
  | _ => none
def lstOf (S : Store) : W → Option (List W)
  | .dat (.list ds) => some (ds.map .dat)
  | .lw ws => some ws
  | .loc n => match S[n]? with
    | some (.lst ws) => some ws
    | _ => none
  | _ => none
def seqOf (S : Store) (w : W) : Option (List W) := match tupOf w with
  | some ws => some ws
  | none => lstOf S w
section
variable {bs : List Nat} {ρ : List Addr} {F N H : Hp} {S : Store} {v : V} {w : W} {ws : List W}
theorem Same.seqT {K : PySem.W.Frag} {a : Addr} {xs : List V} (e : Same F H) (h : SqT K F a xs) : SqT K H a xs := Same.sqT e h
theorem tup_of (r : Is g.K ρ F v w) (h : tupOf w = some ws) : ∃ a vs, v = .ref a ∧ SqT g.K F a vs ∧ IsAll g.K ρ F vs ws := by
  cases w with
  | dat d =>
    cases d <;> simp only [tupOf] at h <;> try cases h
    cases r with
    | dat r => cases r with
      | tup q r => exact ⟨_, _, rfl, SqT.of q, r.isAll⟩
  | loc n => simp [tupOf] at h
  | tw xs => cases h; cases r with
    | tw q r => exact ⟨_, _, rfl, q, r⟩
  | lw xs => simp [tupOf] at h
  | kt ds => simp [tupOf] at h
theorem lst_of (s : Sim g bs ρ F N S H) (r : Is g.K ρ F v w) (h : lstOf S w = some ws) : ∃ a vs, v = .ref a ∧ SqL g.K H a vs ∧ IsAll g.K ρ F vs ws := by
  cases w with
  | dat d =>
    cases d <;> simp only [lstOf] at h <;> try cases h
    cases r with
    | dat r => cases r with
      | lst q r => exact ⟨_, _, rfl, SqL.of (s.ex _ _ q), r.isAll⟩
  | loc n =>
    simp only [lstOf] at h
    split at h
    · rename_i xs hn
      cases h
      cases r with
      | loc hr =>
        obtain ⟨vs, e, q⟩ := s.cell n _ _ hn hr
        exact ⟨_, vs, rfl, SqL.of e, q⟩
    · cases h
  | tw xs => simp [lstOf] at h
  | lw xs => cases h; cases r with
    | lw q r => exact ⟨_, _, rfl, s.ex.seq q, r⟩
  | kt ds => simp [lstOf] at h
theorem seq_of (s : Sim g bs ρ F N S H) (r : Is g.K ρ F v w) (h : seqOf S w = some ws) : ∃ a vs, v = .ref a ∧ (SqL g.K H a vs ∨ SqT g.K H a vs) ∧ IsAll g.K ρ F vs ws := by
  unfold seqOf at h
  split at h
  · cases h; rename_i ht
    obtain ⟨a, vs, e, q, r⟩ := tup_of r ht
    exact ⟨a, vs, e, .inr (Same.sqT s.ex q), r⟩
  · obtain ⟨a, vs, e, q, r⟩ := lst_of s r h
    exact ⟨a, vs, e, .inl q, r⟩
end
theorem IsAll.get {K : PySem.W.Frag} {ρ : List Addr} {F : Hp} : ∀ {ws : List W} {vs : List V} {i : Nat} {w : W}, IsAll K ρ F vs ws → ws[i]? = some w → ∃ v, vs[i]? = some v ∧ Is K ρ F v w
  | _ :: _, _, 0, w, .cons a b, e => by simp at e; subst e; exact ⟨_, rfl, a⟩
  | _ :: _, _, i + 1, w, .cons a b, e => by simpa using IsAll.get (i := i) b (by simpa using e)
theorem IsAll.atI {K : PySem.W.Frag} {ρ : List Addr} {F : Hp} {ws : List W} {vs : List V} {i : Int} {w : W} (h : IsAll K ρ F vs ws) (e : L2.atI ws i = some w) : ∃ v, L2.atI vs i = some v ∧ Is K ρ F v w := by
  unfold L2.atI at e ⊢
  rw [h.len]
  cases hx : ixN ws.length i with
  | none => rw [hx] at e; cases e
  | some j => rw [hx] at e; exact h.get e
theorem IsAll.append {K : PySem.W.Frag} {ρ : List Addr} {F : Hp} : ∀ {ws xs : List W} {vs us : List V}, IsAll K ρ F vs ws → IsAll K ρ F us xs → IsAll K ρ F (vs ++ us) (ws ++ xs)
  | [], _, _, _, .nil, h => h
  | _ :: _, _, _, _, .cons a b, h => .cons a (IsAll.append b h)
theorem IsAll.drop {K : PySem.W.Frag} {ρ : List Addr} {F : Hp} : ∀ {ws : List W} {vs : List V} (n : Nat), IsAll K ρ F vs ws → IsAll K ρ F (vs.drop n) (ws.drop n)
  | _, _, 0, h => h
  | [], _, n + 1, .nil => .nil
  | _ :: _, _, n + 1, .cons a b => IsAll.drop n b
theorem IsAll.take {K : PySem.W.Frag} {ρ : List Addr} {F : Hp} : ∀ {ws : List W} {vs : List V} (n : Nat), IsAll K ρ F vs ws → IsAll K ρ F (vs.take n) (ws.take n)
  | _, _, 0, h => .nil
  | [], _, n + 1, .nil => .nil
  | _ :: _, _, n + 1, .cons a b => .cons a (IsAll.take n b)
theorem IsAll.set {K : PySem.W.Frag} {ρ : List Addr} {F : Hp} {v : V} {w : W} (r : Is K ρ F v w) : ∀ {ws : List W} {vs : List V} (n : Nat), IsAll K ρ F vs ws → IsAll K ρ F (vs.set n v) (ws.set n w)
  | [], _, n, .nil => .nil
  | _ :: _, _, 0, .cons a b => .cons r b
  | _ :: _, _, n + 1, .cons a b => .cons a (IsAll.set r n b)
theorem IsAll.rev {K : PySem.W.Frag} {ρ : List Addr} {F : Hp} : ∀ {ws : List W} {vs : List V}, IsAll K ρ F vs ws → IsAll K ρ F vs.reverse ws.reverse
  | [], _, .nil => .nil
  | _ :: _, _, .cons a b => by rw [List.reverse_cons, List.reverse_cons]; exact IsAll.append (IsAll.rev b) (.cons a .nil)
/-- a pure operation -/
def pure2 (f : Store → W → W → Option W) : Op2 := fun _ x y S => (f S x y).map (·, S)
theorem postv_pure {o : Option W} {S : Store} {bs : List Nat} {ρ : List Addr} {F N : Hp} {Q : VK} {w : W} (p : PostV g bs ρ F N Q (o.map (·, S))) (h : o = some w) {H : Hp} {v : V} (s : Sim g bs ρ F N S H) (r : Is g.K ρ F v w) : Q v H := by
  subst h
  exact p ρ F H v (Grow.refl _ _) s r

/-! ### arithmetic -/
/-- a list that may be added to another one -/
def lstM (S : Store) : W → Option (List W)
  | .dat (.list ds) => some (ds.map .dat)
  | .loc n => match S[n]? with
    | some (.lst ws) => some ws
    | _ => none
  | _ => none
theorem lstM_of {bs : List Nat} {ρ : List Addr} {F N H : Hp} {S : Store} {v : V} {w : W} {ws : List W} (s : Sim g bs ρ F N S H) (r : Is g.K ρ F v w) (h : lstM S w = some ws) : ∃ a vs, v = .ref a ∧ H a = some (.lst vs) ∧ IsAll g.K ρ F vs ws := by
  cases w with
  | dat d =>
    cases d <;> simp only [lstM] at h <;> try cases h
    cases r with
    | dat r => cases r with
      | lst q r => exact ⟨_, _, rfl, s.ex _ _ q, r.isAll⟩
  | loc n =>
    simp only [lstM] at h
    split at h
    · rename_i xs hn
      cases h
      cases r with
      | loc hr =>
        obtain ⟨vs, e, q⟩ := s.cell n _ _ hn hr
        exact ⟨_, vs, rfl, e, q⟩
    · cases h
  | tw xs => simp [lstM] at h
  | lw xs => simp [lstM] at h
  | kt ds => simp [lstM] at h
def addF (k : Bool) : Op2 := fun _ x y S => match x, y with
  | .dat (.int i), .dat (.int j) => some (.int (i + j), S)
  | .dat (.str i), .dat (.str j) => if i.length + j.length ≤ 100000 then some (.str (i ++ j), S) else none
  | .dat (.tuple a), .dat (.tuple b) => if a.length + b.length ≤ 100000 then some (.dat (.tuple (a ++ b)), S) else none
  | x, y => match tupOf x, tupOf y with
    | some xs, some ys => if xs.length + ys.length ≤ 100000 then some (if xs.isEmpty then y else if ys.isEmpty then x else mkTup (xs ++ ys), S) else none
    | _, _ => match lstM S x, lstM S y with
      | some xs, some ys => if xs.length + ys.length ≤ 100000 then some (newL k (xs ++ ys) S) else none
      | _, _ => none
theorem ro_add (hK : g.K = X.K) {k : Bool} : OpR X (binaryOp .Add) (rd2 g (addF k)) := by
  intro pins s σ H x y v u Q I rx ry ⟨bs, ρ, F, N, S, wx, wy, s1, r1, r2, p⟩
  unfold addF at p
  split at p
  · rw [is_int r1] at rx; rw [is_int r2] at ry
    exact op_add pins s σ H _ _ v u Q I rx ry ⟨_, _, rfl, rfl, p ρ F H _ (Grow.refl _ _) s1 (.dat (.int _))⟩
  · split at p
    · rename_i hl
      rw [is_str r1] at rx; rw [is_str r2] at ry
      exact op_add_str pins s σ H _ _ v u Q I rx ry ⟨_, _, rfl, rfl, line5 hl, p ρ F H _ (Grow.refl _ _) s1 (.dat (.str _))⟩
    · exact p.elim
  · split at p
    · rename_i a b hl
      have r1' := r1
      have r2' := r2
      cases r1 with
      | dat r1 => cases r1 with
        | tup q1 l1 => cases r2 with
          | dat r2 => cases r2 with
            | tup q2 l2 =>
              refine op_catA pins s σ H _ _ v u Q I rx ry ⟨_, _, _, _, rfl, rfl, SqT.of (s1.ex _ _ q1), SqT.of (s1.ex _ _ q2), line5 (by rw [l1.len, l2.len]; exact hl), fun e => ?_, fun _ e => ?_, fun _ _ q hq => newT_ok s1 hq (l1.isAll.append l2.isAll) (by rw [← List.map_append, mkTup_dat]; exact p)⟩
              · subst e; cases l1; exact p ρ F H _ (Grow.refl _ _) s1 r2'
              · subst e; cases l2; rw [List.append_nil] at p; exact p ρ F H _ (Grow.refl _ _) s1 r1'
    · exact p.elim
  · split at p
    · rename_i xs ys h1 h2
      split at p
      · rename_i hl
        obtain ⟨a, vs, e1, q1, l1⟩ := tup_of r1 h1
        obtain ⟨b, us, e2, q2, l2⟩ := tup_of r2 h2
        subst e1 e2
        have n1 : xs.isEmpty = vs.isEmpty := by have := l1.len; cases xs <;> cases vs <;> simp_all
        have n2 : ys.isEmpty = us.isEmpty := by have := l2.len; cases ys <;> cases us <;> simp_all
        refine op_catA pins s σ H _ _ v u Q I rx ry ⟨a, b, vs, us, rfl, rfl, ?_, ?_, line5 (by rw [l1.len, l2.len]; exact hl), fun e => ?_, fun n e => ?_, fun n n' q hq => newT_ok s1 hq (l1.append l2) ?_⟩
        · rw [← hK]; exact Same.sqT s1.ex q1
        · rw [← hK]; exact Same.sqT s1.ex q2
        · subst e; rw [n1] at p; exact p ρ F H _ (Grow.refl _ _) s1 r2
        · subst e; rw [n1, n2] at p
          have z : vs.isEmpty = false := by cases vs <;> simp_all
          rw [z] at p; exact p ρ F H _ (Grow.refl _ _) s1 r1
        · rw [n1, n2] at p
          have z : vs.isEmpty = false := by cases vs <;> simp_all
          have z' : us.isEmpty = false := by cases us <;> simp_all
          rw [z, z'] at p; exact p
      · exact p.elim
    · split at p
      · rename_i xs ys h1 h2
        split at p
        · rename_i hl
          obtain ⟨a, vs, e1, q1, l1⟩ := lstM_of s1 r1 h1
          obtain ⟨b, us, e2, q2, l2⟩ := lstM_of s1 r2 h2
          subst e1 e2
          exact op_cat pins s σ H _ _ v u Q I rx ry ⟨a, b, vs, us, rfl, rfl, q1, q2, line5 (by rw [l1.len, l2.len]; exact hl), fun q hq => new_ok s1 hq (l1.append l2) p⟩
        · exact p.elim
      · exact p.elim
def intF (f : Int → Int → Option Int) : Op2 := fun _ x y S => match x, y with
  | .dat (.int i), .dat (.int j) => (f i j).map fun z => (.int z, S)
  | _, _ => none
theorem ro_int {op : Operator} {f : Int → Int → Option Int} {C : Int → Int → Prop} {h : Int → Int → Int} (ho : OpR X (binaryOp op) (rI C fun i j => .int (h i j))) (hf : ∀ i j z, f i j = some z → C i j ∧ z = h i j) : OpR X (binaryOp op) (rd2 g (intF f)) := by
  intro pins s σ H x y v u Q I rx ry ⟨bs, ρ, F, N, S, wx, wy, s1, r1, r2, p⟩
  unfold intF at p
  split at p
  · rename_i i j
    rw [is_int r1] at rx; rw [is_int r2] at ry
    cases hz : f i j with
    | none => rw [hz] at p; exact p.elim
    | some z =>
      rw [hz] at p
      obtain ⟨c, e⟩ := hf i j z hz
      subst e
      exact ho pins s σ H _ _ v u Q I rx ry ⟨_, _, rfl, rfl, c, p ρ F H _ (Grow.refl _ _) s1 (.dat (.int _))⟩
  · exact p.elim
def subF : Op2 := intF fun i j => some (i - j)
def modF : Op2 := intF fun i j => if 0 < j then some (i % j) else none
def fdivF : Op2 := intF fun i j => if 0 < j ∧ j.natAbs.log2 < 9000 then some (i / j) else none
def powF : Op2 := intF fun i j => if 0 ≤ j ∧ (i.natAbs.log2 + 1) * j.toNat ≤ 100000000 then some (i ^ j.toNat) else none
theorem ro_sub : OpR X (binaryOp .Sub) (rd2 g subF) := ro_int (C := fun _ _ => True) (h := fun i j => i - j) (fun pins s σ H x y v u Q I rx ry ⟨i, j, e1, e2, _, q⟩ => op_sub pins s σ H x y v u Q I rx ry ⟨i, j, e1, e2, q⟩) fun i j z e => ⟨trivial, by cases e; rfl⟩
theorem ro_mod : OpR X (binaryOp .Mod) (rd2 g modF) := ro_int (C := fun _ j => 0 < j) (h := fun i j => i % j) op_mod fun i j z e => by
  split at e
  · rename_i h; cases e; exact ⟨h, rfl⟩
  · cases e
theorem ro_fdiv : OpR X (binaryOp .FloorDiv) (rd2 g fdivF) := ro_int (C := CDivW) (h := fun i j => i / j) op_fdivW fun i j z e => by
  split at e
  · rename_i h; cases e; exact ⟨h, rfl⟩
  · cases e
theorem ro_pow : OpR X (binaryOp .Pow) (rd2 g powF) := ro_int (C := fun i j => 0 ≤ j ∧ (i.natAbs.log2 + 1) * j.toNat ≤ 100000000) (h := fun i j => i ^ j.toNat)
    (opI fun i j _ _ _ _ _ hc q => PyProof.Rows.pow_int hc.1 (by
      have b : Builtin.Int.intBits i ≤ i.natAbs.log2 + 1 := by
        unfold Builtin.Int.intBits
        split <;> omega
      have h2 := hc.2
      have h3 : Builtin.Int.intBits i * j.toNat ≤ (i.natAbs.log2 + 1) * j.toNat := Nat.mul_le_mul_right _ b
      have h4 : (Builtin.Int.intBits i : Int) * j = ((Builtin.Int.intBits i * j.toNat : Nat) : Int) := by
        rw [Int.natCast_mul, Int.toNat_of_nonneg hc.1]
      rw [h4]
      omega) q) fun i j z e => by
  split at e
  · rename_i h; cases e; exact ⟨h, rfl⟩
  · cases e
def mulOk (i j : Int) : Bool := decide (i.natAbs < 18446744073709551616) || decide (j.natAbs < 18446744073709551616) || decide (i.natAbs.log2 + j.natAbs.log2 < 900000)
def mulF (k : Bool) : Op2 := fun _ x y S => match x, y with
  | .dat (.int i), .dat (.int j) => if mulOk i j then some (.int (i * j), S) else none
  | x, .dat (.int j) => match tupOf x with
    | some xs => if xs.length ≤ 1000 ∧ 0 < xs.length ∧ 2 ≤ j ∧ j ≤ 1000 then some (mkTup (List.replicate j.toNat xs).flatten, S) else none
    | none => match lstM S x with
      | some xs => if xs.length ≤ 1000 ∧ 0 ≤ j ∧ j ≤ 1000 then some (newL k (List.replicate j.toNat xs).flatten S) else none
      | none => none
  | _, _ => none
theorem IsAll.rep {K : PySem.W.Frag} {ρ : List Addr} {F : Hp} {ws : List W} {vs : List V} (h : IsAll K ρ F vs ws) : ∀ n, IsAll K ρ F (List.replicate n vs).flatten (List.replicate n ws).flatten
  | 0 => .nil
  | n + 1 => by rw [List.replicate_succ, List.replicate_succ, List.flatten_cons, List.flatten_cons]; exact h.append (IsAll.rep h n)
theorem ro_mul (hK : g.K = X.K) {k : Bool} : OpR X (binaryOp .Mult) (rd2 g (mulF k)) := by
  intro pins s σ H x y v u Q I rx ry ⟨bs, ρ, F, N, S, wx, wy, s1, r1, r2, p⟩
  unfold mulF at p
  split at p
  · rename_i i j
    split at p
    · rename_i hm
      rw [is_int r1] at rx; rw [is_int r2] at ry
      have q : Q (.int (i * j)) H := p ρ F H _ (Grow.refl _ _) s1 (.dat (.int _))
      unfold mulOk at hm
      simp only [Bool.or_eq_true, decide_eq_true_eq] at hm
      rcases hm with (hm | hm) | hm
      · exact op_mul pins s σ H _ _ v u Q I rx ry ⟨_, _, rfl, rfl, .inl (by omega), q⟩
      · exact op_mul pins s σ H _ _ v u Q I rx ry ⟨_, _, rfl, rfl, .inr (by omega), q⟩
      · exact op_mulW pins s σ H _ _ v u Q I rx ry ⟨_, _, rfl, rfl, (by unfold CMulW; omega), q⟩
    · exact p.elim
  · rename_i j _
    rw [is_int r2] at ry
    split at p
    · rename_i xs h1
      split at p
      · rename_i hl
        obtain ⟨a, vs, e1, q1, l1⟩ := tup_of r1 h1
        subst e1
        refine op_repT pins s σ H _ _ v u Q I rx ry ⟨a, j, vs, rfl, rfl, ?_, ?_, hl.2.2.1, hl.2.2.2, (by rw [l1.len]; exact hl.1), fun q hq => newT_ok s1 hq (l1.rep _) p⟩
        · rw [← hK]; exact Same.sqT s1.ex q1
        · intro z; subst z; have := l1.len; simp at this; omega
      · exact p.elim
    · split at p
      · rename_i xs h1
        split at p
        · rename_i hl
          obtain ⟨a, vs, e1, q1, l1⟩ := lstM_of s1 r1 h1
          subst e1
          refine op_rep pins s σ H _ _ v u Q I rx ry ⟨a, j, vs, rfl, rfl, q1, by omega, by omega, ?_, fun q hq => new_ok s1 hq (l1.rep _) p⟩
          refine Nat.le_trans ?_ (show 1000 * 1000 ≤ sizeLine by decide)
          rw [l1.len]
          exact Nat.mul_le_mul hl.1 (by omega : j.toNat ≤ 1000)
        · exact p.elim
      · exact p.elim
  · exact p.elim
end
end Rf

set_option maxHeartbeats 4000000
namespace Rf
open PySem L2

/-! ### data in the heap, without dicts -/
section
variable {K : PySem.W.Frag} {F N H : Hp}
mutual
theorem Rp.dp (e : Same F H) : ∀ {d : PyData} {v : V}, d.plain = true → Rp K F v d → Dp K H v d
  | .none, _, _, h => by cases h; exact .non
  | .bool b, _, _, h => by cases h; exact .bl b
  | .int i, _, _, h => by cases h; exact .int i
  | .str x, _, _, h => by cases h; exact .str x
  | .list ds, _, p, h => by
    cases h with
    | lst s r => exact .lst (SqL.of (e _ _ s)) (RpAll.dp e (by simpa [PyData.plain] using p) r)
  | .tuple ds, _, p, h => by
    cases h with
    | tup s r => exact .tup (SqT.of (e _ _ s)) (RpAll.dp e (by simpa [PyData.plain] using p) r)
  | .dict ds, _, p, h => by simp [PyData.plain] at p
theorem RpAll.dp (e : Same F H) : ∀ {ds : List PyData} {vs : List V}, PyData.plainAll ds = true → RpAll K F vs ds → DpAll K H vs ds
  | [], _, _, h => by cases h; exact .nil
  | d :: ds, _, p, h => by
    have p' : d.plain = true ∧ PyData.plainAll ds = true := by simpa [PyData.plainAll] using p
    cases h with
    | cons a b => exact .cons (Rp.dp e p'.1 a) (RpAll.dp e p'.2 b)
end
end
mutual
/-- the data that a value tells by itself -/
def viewW : W → Option PyData
  | .dat d => some d
  | .loc _ => none
  | .tw ws => (viewAll ws).map .tuple
  | .lw ws => (viewAll ws).map .list
  | .kt _ => none
def viewAll : List W → Option (List PyData)
  | [] => some []
  | w :: ws => match viewW w, viewAll ws with
    | some d, some ds => some (d :: ds)
    | _, _ => none
end
/-- the data that a value tells now -/
def viewD (S : Store) : W → Option PyData
  | .loc n => match S[n]? with
    | some (.lst ws) => (viewAll ws).map .list
    | _ => none
  | w => viewW w
@[simp] theorem viewAll_dat (ds : List PyData) : viewAll (ds.map .dat) = some ds := by
  induction ds with
  | nil => rfl
  | cons d ds ih => simp [viewAll, viewW, ih]
section
variable {X : Cx} {g : Gx} {bs : List Nat} {ρ : List Addr} {F N H : Hp} {S : Store} {v : V} {w : W} {d : PyData}
mutual
theorem viewW_dp {K : PySem.W.Frag} (e : Same F H) : ∀ {w : W} {v : V} {d : PyData}, Is K ρ F v w → viewW w = some d → d.plain = true → Dp K H v d
  | .dat _, _, _, r, h, p => by
    cases h
    cases r with
    | dat r => exact r.dp e p
  | .loc _, _, _, _, h, _ => by simp [viewW] at h
  | .tw ws, _, _, r, h, p => by
    simp only [viewW, Option.map_eq_some_iff] at h
    obtain ⟨ds, h, rfl⟩ := h
    cases r with
    | tw q r => exact .tup (Same.sqT e q) (viewAll_dp e r h (by simpa [PyData.plain] using p))
  | .lw ws, _, _, r, h, p => by
    simp only [viewW, Option.map_eq_some_iff] at h
    obtain ⟨ds, h, rfl⟩ := h
    cases r with
    | lw q r => exact .lst (e.seq q) (viewAll_dp e r h (by simpa [PyData.plain] using p))
  | .kt _, _, _, _, h, _ => by simp [viewW] at h
theorem viewAll_dp {K : PySem.W.Frag} (e : Same F H) : ∀ {ws : List W} {vs : List V} {ds : List PyData}, IsAll K ρ F vs ws → viewAll ws = some ds → PyData.plainAll ds = true → DpAll K H vs ds
  | [], _, _, r, h, p => by cases r; simp [viewAll] at h; subst h; exact .nil
  | w :: ws, _, _, r, h, p => by
    cases r with
    | cons a b =>
      simp only [viewAll] at h
      split at h
      · rename_i d ds h1 h2
        cases h
        have p' : d.plain = true ∧ PyData.plainAll ds = true := by simpa [PyData.plainAll] using p
        exact .cons (viewW_dp e a h1 p'.1) (viewAll_dp e b h2 p'.2)
      · cases h
end
theorem view_dp (s : Sim g bs ρ F N S H) (r : Is g.K ρ F v w) (h : viewD S w = some d) (p : d.plain = true) : Dp g.K H v d := by
  cases w with
  | dat d' => exact viewW_dp s.ex r h p
  | loc n =>
    simp only [viewD] at h
    split at h
    · rename_i ws hn
      simp only [Option.map_eq_some_iff] at h
      obtain ⟨ds, h, rfl⟩ := h
      cases r with
      | loc hr =>
        obtain ⟨vs, e, q⟩ := s.cell n _ _ hn hr
        exact .lst (SqL.of e) (viewAll_dp s.ex q h (by simpa [PyData.plain] using p))
    · cases h
  | tw ws => exact viewW_dp s.ex r h p
  | lw ws => exact viewW_dp s.ex r h p
  | kt ws => exact viewW_dp s.ex r h p
def eqF (neg : Bool) : Op2 := fun _ x y S => match viewD S x, viewD S y with
  | some d, some e => if d.plain = true ∧ e.plain = true ∧ d.depth ≤ 64 then some (.bl (PyData.eqv d e != neg), S) else none
  | _, _ => none
theorem ro_eq (hK : g.K = X.K) (hu : X.A.units + 100 < cLine) : OpR X (compareOp .Eq) (rd2 g (eqF false)) := by
  intro pins s σ H x y v u Q I rx ry ⟨bs, ρ, F, N, S, wx, wy, s1, r1, r2, p⟩
  unfold eqF at p
  split at p
  · rename_i d e h1 h2
    split at p
    · rename_i hp
      have d1 := view_dp s1 r1 h1 hp.1
      have d2 := view_dp s1 r2 h2 hp.2.1
      rw [hK] at d1 d2
      obtain ⟨as, q1⟩ := Dp.reads I d x v d1 rx
      obtain ⟨bs', q2⟩ := Dp.reads I e y u d2 ry
      refine SeqAt.eq_plain q1 q2 hp.1 hp.2.1 (Nat.lt_of_le_of_lt (Nat.add_le_add_left (Nat.le_trans (Nat.min_le_left _ _) hp.2.2) _) (by omega)) ⟨.bl _, H, I, rfl, ?_⟩
      simpa using p ρ F H (.bl _) (Grow.refl _ _) s1 (.dat (.bl _))
    · exact p.elim
  · exact p.elim
theorem ro_ne (hK : g.K = X.K) (hu : X.A.units + 100 < cLine) : OpR X (compareOp .NotEq) (rd2 g (eqF true)) := by
  intro pins s σ H x y v u Q I rx ry ⟨bs, ρ, F, N, S, wx, wy, s1, r1, r2, p⟩
  unfold eqF at p
  split at p
  · rename_i d e h1 h2
    split at p
    · rename_i hp
      have d1 := view_dp s1 r1 h1 hp.1
      have d2 := view_dp s1 r2 h2 hp.2.1
      rw [hK] at d1 d2
      obtain ⟨as, q1⟩ := Dp.reads I d x v d1 rx
      obtain ⟨bs', q2⟩ := Dp.reads I e y u d2 ry
      refine SeqAt.ne_plain q1 q2 hp.1 hp.2.1 (Nat.lt_of_le_of_lt (Nat.add_le_add_left (Nat.le_trans (Nat.min_le_left _ _) hp.2.2) _) (by omega)) ⟨.bl _, H, I, rfl, ?_⟩
      simpa using p ρ F H (.bl _) (Grow.refl _ _) s1 (.dat (.bl _))
    · exact p.elim
  · exact p.elim
/-- x in a list or tuple -/
def inF (neg : Bool) : Op2 := fun _ x y S => match viewD S x, viewD S y with
  | some d, some (.list es) => if d.plain = true ∧ PyData.plainAll es = true ∧ d.depth ≤ 64 then some (.bl ((es.any fun z => PyData.eqv z d) != neg), S) else none
  | some d, some (.tuple es) => if d.plain = true ∧ PyData.plainAll es = true ∧ d.depth ≤ 64 then some (.bl ((es.any fun z => PyData.eqv z d) != neg), S) else none
  | _, _ => none
theorem unit_of {A : Around} {m n : Nat} (hu : A.units + 100 < cLine) (h : n ≤ 64) : A.units + 1 + min m n < cLine := Nat.lt_of_le_of_lt (Nat.add_le_add_left (Nat.le_trans (Nat.min_le_right _ _) h) _) (by omega)
theorem ro_in (hK : g.K = X.K) (hu : X.A.units + 100 < cLine) : OpR X (compareOp .In) (rd2 g (inF false)) := by
  intro pins s σ H x y v u Q I rx ry ⟨bs, ρ, F, N, S, wx, wy, s1, r1, r2, p⟩
  unfold inF at p
  split at p
  · rename_i d es h1 h2
    split at p
    · rename_i hp
      have d1 := view_dp s1 r1 h1 hp.1
      have d2 := view_dp s1 r2 h2 (by simpa [PyData.plain] using hp.2.1)
      rw [hK] at d1 d2
      obtain ⟨as, q1⟩ := Dp.reads I d x v d1 rx
      obtain ⟨bs', q2⟩ := Dp.reads I _ y u d2 ry
      refine SeqAt.in_list_data q2 q1 hp.2.1 hp.1 (unit_of hu hp.2.2) ⟨.bl _, H, I, rfl, ?_⟩
      simpa using p ρ F H (.bl _) (Grow.refl _ _) s1 (.dat (.bl _))
    · exact p.elim
  · rename_i d es h1 h2
    split at p
    · rename_i hp
      have d1 := view_dp s1 r1 h1 hp.1
      have d2 := view_dp s1 r2 h2 (by simpa [PyData.plain] using hp.2.1)
      rw [hK] at d1 d2
      obtain ⟨as, q1⟩ := Dp.reads I d x v d1 rx
      obtain ⟨bs', q2⟩ := Dp.reads I _ y u d2 ry
      refine SeqAt.in_tuple_data q2 q1 hp.2.1 hp.1 (unit_of hu hp.2.2) ⟨.bl _, H, I, rfl, ?_⟩
      simpa using p ρ F H (.bl _) (Grow.refl _ _) s1 (.dat (.bl _))
    · exact p.elim
  · exact p.elim
theorem ro_notIn (hK : g.K = X.K) (hu : X.A.units + 100 < cLine) : OpR X (compareOp .NotIn) (rd2 g (inF true)) := by
  intro pins s σ H x y v u Q I rx ry ⟨bs, ρ, F, N, S, wx, wy, s1, r1, r2, p⟩
  unfold inF at p
  split at p
  · rename_i d es h1 h2
    split at p
    · rename_i hp
      have d1 := view_dp s1 r1 h1 hp.1
      have d2 := view_dp s1 r2 h2 (by simpa [PyData.plain] using hp.2.1)
      rw [hK] at d1 d2
      obtain ⟨as, q1⟩ := Dp.reads I d x v d1 rx
      obtain ⟨bs', q2⟩ := Dp.reads I _ y u d2 ry
      refine SeqAt.notIn_list_data q2 q1 hp.2.1 hp.1 (unit_of hu hp.2.2) ⟨.bl _, H, I, rfl, ?_⟩
      simpa using p ρ F H (.bl _) (Grow.refl _ _) s1 (.dat (.bl _))
    · exact p.elim
  · rename_i d es h1 h2
    split at p
    · rename_i hp
      have d1 := view_dp s1 r1 h1 hp.1
      have d2 := view_dp s1 r2 h2 (by simpa [PyData.plain] using hp.2.1)
      rw [hK] at d1 d2
      obtain ⟨as, q1⟩ := Dp.reads I d x v d1 rx
      obtain ⟨bs', q2⟩ := Dp.reads I _ y u d2 ry
      refine SeqAt.notIn_tuple_data q2 q1 hp.2.1 hp.1 (unit_of hu hp.2.2) ⟨.bl _, H, I, rfl, ?_⟩
      simpa using p ρ F H (.bl _) (Grow.refl _ _) s1 (.dat (.bl _))
    · exact p.elim
  · exact p.elim
/-- is None, is not None -/
def isNF (neg : Bool) : Op2 := fun _ x y S => match y with
  | .dat .none => match x with
    | .dat .none => some (.bl (true != neg), S)
    | _ => some (.bl (false != neg), S)
  | _ => none
theorem is_notnon {K : PySem.W.Frag} (h : ∀ d, w = .dat d → d = .none → False) (r : Is K ρ F v w) : v ≠ .non := by
  intro z; subst z
  cases w with
  | dat d => cases r with
    | dat r => cases r; exact h _ rfl rfl
  | loc n => cases r
  | tw ws => cases r
  | lw ws => cases r
  | kt ws => cases r
theorem ro_isN : OpR X (compareOp .Is) (rd2 g (isNF false)) := by
  intro pins s σ H x y v u Q I rx ry ⟨bs, ρ, F, N, S, wx, wy, s1, r1, r2, p⟩
  unfold isNF at p
  split at p
  · rw [is_non r2] at ry
    split at p
    · rw [is_non r1] at rx
      exact op_isN pins s σ H _ _ v u Q I rx ry ⟨rfl, p ρ F H _ (Grow.refl _ _) s1 (.dat (.bl _))⟩
    · rename_i hx
      have hn := is_notnon (fun d e z => hx (by rw [e, z])) r1
      exact op_isN pins s σ H _ _ v u Q I rx ry ⟨rfl, by rw [decide_eq_false hn]; exact p ρ F H _ (Grow.refl _ _) s1 (.dat (.bl _))⟩
  · exact p.elim
theorem ro_notN : OpR X (compareOp .IsNot) (rd2 g (isNF true)) := by
  intro pins s σ H x y v u Q I rx ry ⟨bs, ρ, F, N, S, wx, wy, s1, r1, r2, p⟩
  unfold isNF at p
  split at p
  · rw [is_non r2] at ry
    split at p
    · rw [is_non r1] at rx
      exact op_notN pins s σ H _ _ v u Q I rx ry ⟨rfl, p ρ F H _ (Grow.refl _ _) s1 (.dat (.bl _))⟩
    · rename_i hx
      have hn := is_notnon (fun d e z => hx (by rw [e, z])) r1
      exact op_notN pins s σ H _ _ v u Q I rx ry ⟨rfl, by rw [decide_eq_false hn]; exact p ρ F H _ (Grow.refl _ _) s1 (.dat (.bl _))⟩
  · exact p.elim
end
end Rf

set_option maxHeartbeats 4000000
namespace Rf
open PySem L2 PySem.Spec PyProof.Rows

/-! ### order -/
def lexB (r : Int → Int → Bool) (z : Nat → Nat → Bool) : List Int → List Int → Bool
  | x :: xs, y :: ys => if x = y then lexB r z xs ys else r x y
  | [], ys => z 0 ys.length
  | xs, [] => z xs.length 0
theorem lexAt_shift {e r e' r' : Nat → Bool} {z : Bool} (he : ∀ i, e (i + 1) = e' i) (hr : ∀ i, r (i + 1) = r' i) : ∀ k i, Ob.lexAt e r z (i + 1) k = Ob.lexAt e' r' z i k
  | 0, _ => rfl
  | k + 1, i => by rw [Ob.lexAt_succ, Ob.lexAt_succ, he, hr, lexAt_shift he hr k (i + 1)]
theorem lexAt_lexB {r : Int → Int → Bool} {z : Nat → Nat → Bool} (hz : ∀ a b, z (a + 1) (b + 1) = z a b) : ∀ ns ms : List Int,
    Ob.lexAt (fun j => decide (ns.getD j 0 = ms.getD j 0)) (fun j => r (ns.getD j 0) (ms.getD j 0)) (z ns.length ms.length) 0 (min ns.length ms.length) = lexB r z ns ms
  | [], ys => by simp [Ob.lexAt_zero, lexB]
  | x :: xs, [] => by simp [Ob.lexAt_zero, lexB]
  | x :: xs, y :: ys => by
    have hm : min (x :: xs).length (y :: ys).length = min xs.length ys.length + 1 := by simp
    rw [hm, Ob.lexAt_succ]
    by_cases e : x = y
    · subst e
      rw [if_pos (by simp)]
      rw [lexAt_shift (e' := fun j => decide (xs.getD j 0 = ys.getD j 0)) (r' := fun j => r (xs.getD j 0) (ys.getD j 0)) (fun i => rfl) (fun i => rfl)]
      have hl : z (x :: xs).length (x :: ys).length = z xs.length ys.length := hz _ _
      rw [hl, lexAt_lexB hz xs ys]
      simp [lexB]
    · rw [if_neg (by simpa using e)]
      simp [lexB, e]
def intsD : List PyData → Option (List Int)
  | [] => some []
  | .int i :: ds => (intsD ds).map (i :: ·)
  | _ :: _ => none
theorem intsD_eq : ∀ {ds : List PyData} {ns : List Int}, intsD ds = some ns → ds = ns.map .int
  | [], _, e => by simp [intsD] at e; subst e; rfl
  | .int i :: ds, _, e => by
    simp only [intsD, Option.map_eq_some_iff] at e
    obtain ⟨ns, e, rfl⟩ := e
    rw [intsD_eq e]; rfl
  | .none :: _, _, e => by simp [intsD] at e
  | .bool _ :: _, _, e => by simp [intsD] at e
  | .str _ :: _, _, e => by simp [intsD] at e
  | .list _ :: _, _, e => by simp [intsD] at e
  | .tuple _ :: _, _, e => by simp [intsD] at e
  | .dict _ :: _, _, e => by simp [intsD] at e
@[simp] theorem intsD_map (ns : List Int) : intsD (ns.map .int) = some ns := by
  induction ns with
  | nil => rfl
  | cons n ns ih => simp [intsD, ih]
theorem rp_ints {K : PySem.W.Frag} {F : Hp} : ∀ {ns : List Int} {vs : List V}, RpAll K F vs (ns.map .int) → vs = ns.map V.int
  | [], _, h => by cases h; rfl
  | n :: ns, _, h => by
    cases h with
    | cons a b => cases a; rw [rp_ints b]; rfl
inductive Ord where
  | lt | le | gt | ge
def Ord.op : Ord → CmpOp
  | .lt => .Lt | .le => .LtE | .gt => .Gt | .ge => .GtE
def Ord.int : Ord → Int → Int → Bool
  | .lt, a, b => decide (a < b) | .le, a, b => decide (a ≤ b) | .gt, a, b => decide (b < a) | .ge, a, b => decide (b ≤ a)
def Ord.nat : Ord → Nat → Nat → Bool
  | .lt, a, b => decide (a < b) | .le, a, b => decide (a ≤ b) | .gt, a, b => decide (a > b) | .ge, a, b => decide (a ≥ b)
def Ord.str : Ord → Str → Str → Bool
  | .lt, a, b => decide (a.cps.toList < b.cps.toList) | .le, a, b => !decide (b.cps.toList < a.cps.toList) | .gt, a, b => decide (b.cps.toList < a.cps.toList) | .ge, a, b => !decide (a.cps.toList < b.cps.toList)
def ordF (o : Ord) : Op2 := fun _ x y S => match x, y with
  | .dat (.int i), .dat (.int j) => some (.bl (o.int i j), S)
  | .dat (.str i), .dat (.str j) => some (.bl (o.str i j), S)
  | .dat (.tuple a), .dat (.tuple b) => match intsD a, intsD b with
    | some ns, some ms => some (.bl (lexB o.int o.nat ns ms), S)
    | _, _ => none
  | _, _ => none
section
variable {X : Cx} {g : Gx}
theorem tup_ints {K : PySem.W.Frag} {ρ : List Addr} {F H : Hp} {v : V} {ds : List PyData} {ns : List Int} (e : Same F H) (r : Is K ρ F v (.dat (.tuple ds))) (h : intsD ds = some ns) : ∃ a, v = .ref a ∧ SqT K H a (ns.map V.int) := by
  cases r with
  | dat r => cases r with
    | tup q r =>
      rw [intsD_eq h] at r
      rw [rp_ints r] at q
      exact ⟨_, rfl, SqT.of (e _ _ q)⟩
theorem ints_at {us : List Value} {ns : List Int} (i1 : IntsAre us ns) : ∀ j (h1 : j < us.toArray.size), ∃ t, us.toArray[j] = .int (ns.getD j 0) t := fun j h1 => by
  have e1 : us.toArray.size = ns.length := by rw [List.size_toArray]; exact i1.length
  exact PyProof.Rows.IntsAre.int_at i1 _ _ (by simp at h1; simp [h1])
theorem int_bd (a b : Int) : (a == b) = decide (a = b) := by
  by_cases q : a = b
  · rw [decide_eq_true q]; exact beq_iff_eq.mpr q
  · rw [decide_eq_false q]; exact beq_eq_false_iff_ne.mpr q
theorem ro_ordT (o : Ord) (hu : X.A.units + 100 < cLine) {pins : List (Addr × Obj)} {s : Shared} {σ : L2.St} {H : Hp} {a b : Addr} {ns ms : List Int} {Q : VK} (I : Inv X pins σ H s) (ha : SqT X.K H a (ns.map V.int)) (hb : SqT X.K H b (ms.map V.int))
    (q : Q (.bl (lexB o.int o.nat ns ms)) H) : wpAny (model X.prog X.w) X.A (compareOp o.op (.ref a) (.ref b)) (EP X pins σ Q) X.xe s := by
  obtain ⟨its, r1, p1, _⟩ := I.tuple ha
  obtain ⟨its2, r2, p2, _⟩ := I.tuple hb
  have i1 : IntsAre its ns := Vals.ints r1
  have i2 : IntsAre its2 ms := Vals.ints r2
  have e1 : its.toArray.size = ns.length := by rw [List.size_toArray]; exact i1.length
  have e2 : its2.toArray.size = ms.length := by rw [List.size_toArray]; exact i2.length
  have he : ∀ j (h1 : j < its.toArray.size) (h2 : j < its2.toArray.size), SeqAt.EqAt X.A.in1 s its.toArray[j] its2.toArray[j] (decide (ns.getD j 0 = ms.getD j 0)) := fun j h1 h2 => by
    obtain ⟨t, et⟩ := ints_at i1 j h1
    obtain ⟨t', et'⟩ := ints_at i2 j h2
    rw [et, et', ← int_bd]
    exact SeqAt.EqAt.int_int _ _ _ _
  have fin : wpAny (model X.prog X.w) X.A (compareOp o.op (.ref a) (.ref b)) (EP X pins σ Q) X.xe s := by
    have q' : EP X pins σ Q (.bool (lexB o.int o.nat ns ms)) s := ⟨.bl _, H, I, rfl, q⟩
    cases o with
    | lt =>
      have R := Ob.RcOp.tuples_lt (A := X.A) (s := s) (r := fun j => decide (ns.getD j 0 < ms.getD j 0)) p1 p2 (by omega) he (fun j h1 h2 _ => by
        obtain ⟨t, et⟩ := ints_at i1 j h1
        obtain ⟨t', et'⟩ := ints_at i2 j h2
        rw [et, et']
        exact Ob.RcOp.lt_int _ _ _ _)
      rw [e1, e2] at R
      exact R X.prog X.w X.xe _ (by rw [← lexAt_lexB (fun a b => by simp [Ord.nat])] at q'; exact q')
    | le =>
      have R := Ob.RcOp.tuples_le (A := X.A) (s := s) (r := fun j => decide (ns.getD j 0 ≤ ms.getD j 0)) p1 p2 (by omega) he (fun j h1 h2 _ => by
        obtain ⟨t, et⟩ := ints_at i1 j h1
        obtain ⟨t', et'⟩ := ints_at i2 j h2
        rw [et, et']
        exact Ob.RcOp.le_int _ _ _ _)
      rw [e1, e2] at R
      exact R X.prog X.w X.xe _ (by rw [← lexAt_lexB (fun a b => by simp [Ord.nat])] at q'; exact q')
    | gt =>
      have R := Ob.RcOp.tuples_gt (A := X.A) (s := s) (r := fun j => decide (ms.getD j 0 < ns.getD j 0)) p1 p2 (by omega) he (fun j h1 h2 _ => by
        obtain ⟨t, et⟩ := ints_at i1 j h1
        obtain ⟨t', et'⟩ := ints_at i2 j h2
        rw [et, et']
        exact Ob.RcOp.gt_int _ _ _ _)
      rw [e1, e2] at R
      exact R X.prog X.w X.xe _ (by rw [← lexAt_lexB (fun a b => by simp [Ord.nat])] at q'; exact q')
    | ge =>
      have R := Ob.RcOp.tuples_ge (A := X.A) (s := s) (r := fun j => decide (ms.getD j 0 ≤ ns.getD j 0)) p1 p2 (by omega) he (fun j h1 h2 _ => by
        obtain ⟨t, et⟩ := ints_at i1 j h1
        obtain ⟨t', et'⟩ := ints_at i2 j h2
        rw [et, et']
        exact Ob.RcOp.ge_int _ _ _ _)
      rw [e1, e2] at R
      exact R X.prog X.w X.xe _ (by rw [← lexAt_lexB (fun a b => by simp [Ord.nat])] at q'; exact q')
  exact fin
theorem ro_ord (o : Ord) (hK : g.K = X.K) (hu : X.A.units + 100 < cLine) : OpR X (compareOp o.op) (rd2 g (ordF o)) := by
  intro pins s σ H x y v u Q I rx ry ⟨bs, ρ, F, N, S, wx, wy, s1, r1, r2, p⟩
  unfold ordF at p
  split at p
  · rw [is_int r1] at rx; rw [is_int r2] at ry
    have q := p ρ F H _ (Grow.refl _ _) s1 (.dat (.bl _))
    cases o
    · exact op_lt pins s σ H _ _ v u Q I rx ry ⟨_, _, rfl, rfl, q⟩
    · exact op_le pins s σ H _ _ v u Q I rx ry ⟨_, _, rfl, rfl, q⟩
    · exact op_gt pins s σ H _ _ v u Q I rx ry ⟨_, _, rfl, rfl, q⟩
    · exact op_ge pins s σ H _ _ v u Q I rx ry ⟨_, _, rfl, rfl, q⟩
  · rw [is_str r1] at rx; rw [is_str r2] at ry
    have q := p ρ F H _ (Grow.refl _ _) s1 (.dat (.bl _))
    cases o
    · exact op_lt_str pins s σ H _ _ v u Q I rx ry ⟨_, _, rfl, rfl, q⟩
    · exact op_le_str pins s σ H _ _ v u Q I rx ry ⟨_, _, rfl, rfl, q⟩
    · exact op_gt_str pins s σ H _ _ v u Q I rx ry ⟨_, _, rfl, rfl, q⟩
    · exact op_ge_str pins s σ H _ _ v u Q I rx ry ⟨_, _, rfl, rfl, q⟩
  · split at p
    · rename_i ns ms h1 h2
      obtain ⟨a, e1, q1⟩ := tup_ints s1.ex r1 h1
      obtain ⟨b, e2, q2⟩ := tup_ints s1.ex r2 h2
      subst e1 e2
      cases rx; cases ry
      rw [hK] at q1 q2
      exact ro_ordT o hu I q1 q2 (p ρ F H _ (Grow.refl _ _) s1 (.dat (.bl _)))
    · exact p.elim
  · exact p.elim

/-! ### chains -/
/-- a < b < c; the middle is asked once -/
def mChain (f f' : Op2) (ma mb mc : M W) : M W := fun bs env S => (ma bs env S).bind fun x S1 => (mb bs env S1).bind fun y S2 => match f bs x y S2 with
  | some (.dat (.bool b), S3) => if b = true then (mc bs env S3).bind fun z S4 => match f' bs y z S4 with
      | some (w, S5) => .ok w S5
      | none => .stuck
    else .ok (.bl false) S3
  | _ => .stuck
variable {B : WX} {a b c e : Expr} {ma mb mc : M W} {pos : Pos} {f f' : Op2}
theorem rd_chain (σ : L2.St) (H : Hp) (Q : VK) (h : rd g B (mChain f f' ma mb mc) σ H Q) : tChain (rd2 g f) (rd2 g f') (rd g B ma) (rd g B mb) (rd g B mc) σ H Q := by
  obtain ⟨bs, ρ, F, N, env, S, s, e, p⟩ := h
  refine ⟨bs, ρ, F, N, env, S, s, e, (Post.bind p).imp fun x H1 ⟨ρ1, F1, wx, S1, g1, s1, r1, p1⟩ => ?_⟩
  refine ⟨bs, ρ1, F1, N, env, S1, s1, e.mono g1, (Post.bind p1).imp fun y H2 ⟨ρ2, F2, wy, S2, g2, s2, r2, p2⟩ => ?_⟩
  refine ⟨bs, ρ2, F2, N, S2, wx, wy, s2, r1.mono g2, r2, ?_⟩
  split at p2
  · rename_i b S3 hf
    rw [hf]
    intro ρ3 F3 H3 v g3 s3 r3
    refine ⟨b, is_bl r3, ?_⟩
    cases b with
    | true =>
      rw [if_pos rfl] at p2 ⊢
      have p3 := Post.grow g3 p2
      refine ⟨bs, ρ3, F3, N, env, S3, s3, e.mono (g1.trans (g2.trans g3)), (Post.bind p3).imp fun z H4 ⟨ρ4, F4, wz, S4, g4, s4, r4, p4⟩ => ?_⟩
      exact ⟨bs, ρ4, F4, N, S4, wy, wz, s4, r2.mono (g3.trans g4), r4, post_op p4⟩
    | false =>
      rw [if_neg Bool.false_ne_true] at p2 ⊢
      exact p2 ρ3 F3 H3 _ g3 s3 (.dat (.bl _))
  · exact p2.elim
theorem re_chain {op op' : CmpOp} (ho : OpR X (compareOp op) (rd2 g f)) (ho' : OpR X (compareOp op') (rd2 g f')) (ha : PE X a (rd g B ma)) (hb : PE X b (rd g B mb)) (hc : PE X c (rd g B mc))
    (hm : lastMarks [op, op'] [b, c] = false := by with_unfolding_all rfl) : PE X (.Compare a [op, op'] [b, c] pos) (rd g B (mChain f f' ma mb mc)) := (pe_chain ho ho' ha hb hc hm).imp rd_chain
theorem rt_chain {op op' : CmpOp} (ho : OpR X (compareOp op) (rd2 g f)) (ho' : OpR X (compareOp op') (rd2 g f')) (ha : PE X a (rd g B ma)) (hb : PE X b (rd g B mb)) (hc : PE X c (rd g B mc))
    (hm : lastMarks [op, op'] [b, c] = false := by with_unfolding_all rfl) : PT X (.Compare a [op, op'] [b, c] pos) (rdT g B (mB (mChain f f' ma mb mc))) := (pt_chain ho ho' ha hb hc hm).imp fun σ H Q h => rd_chain σ H _ (rd_B h)

/-! ### truth -/
def truW (S : Store) : W → Option Bool
  | .dat .none => some false
  | .dat (.bool b) => some b
  | .dat (.int i) => some (i != 0)
  | .dat (.str x) => if x.length ≤ 100000 then some ((x.length : Int) != 0) else none
  | w => (seqOf S w).map fun ws => !ws.isEmpty
theorem tru_of {bs : List Nat} {ρ : List Addr} {F N H : Hp} {S : Store} {v : V} {w : W} {k : Bool} (s : Sim g bs ρ F N S H) (r : Is g.K ρ F v w) (h : truW S w = some k) : TruV g.K v H k := by
  unfold truW at h
  split at h
  · rw [is_non r]; cases h; rfl
  · rw [is_bl r]; cases h; rfl
  · rw [is_int r]; cases h; rfl
  · split at h
    · rename_i hl; rw [is_str r]; cases h; exact ⟨line5 hl, rfl⟩
    · cases h
  · simp only [Option.map_eq_some_iff] at h
    obtain ⟨ws, h, rfl⟩ := h
    obtain ⟨a, vs, e, q, l⟩ := seq_of s r h
    subst e
    have hl : (!ws.isEmpty) = !vs.isEmpty := by
      have := l.len
      cases ws <;> cases vs <;> simp_all
    rw [hl]
    rcases q with q | q
    · exact .inl ⟨vs, q, rfl⟩
    · exact .inr (.inl ⟨vs, q, rfl⟩)
def mTru (m : M W) : M Bool := fun bs env S => (m bs env S).bind fun w S1 => match truW S1 w with
  | some b => .ok b S1
  | none => .stuck
theorem rd_tru (hK : g.K = X.K) {m : M W} (σ : L2.St) (H : Hp) (Q : Bool → Hp → Prop) (h : rdT g B (mTru m) σ H Q) : rd g B m σ H (fun x H1 => ∃ k, TruV X.K x H1 k ∧ Q k H1) := by
  obtain ⟨bs, ρ, F, N, env, S, s, e, p⟩ := h
  refine ⟨bs, ρ, F, N, env, S, s, e, (Post.bind (R1 := RW g) p).imp fun x H1 ⟨ρ1, F1, wx, S1, g1, s1, r1, p1⟩ => ?_⟩
  split at p1
  · rename_i b hb
    refine ⟨b, ?_, p1 ρ1 F1 H1 _ (Grow.refl _ _) s1 rfl⟩
    rw [← hK]; exact tru_of s1 r1 hb
  · exact p1.elim
theorem rt_tru (hK : g.K = X.K) (h : PE X e (rd g B ma)) (he : ∀ whole, isTrue e X.env whole = (do let v ← whole; standAt e.pos; holding [v] (truthy v)) := by intro _; rfl) : PT X e (rdT g B (mTru ma)) :=
  (pt_truth h he).imp fun σ H Q h => rd_tru hK σ H Q h
/-- x and y, x or y, not x, as values -/
def mAndV (ma mb : M W) : M W := fun bs env S => (ma bs env S).bind fun x S1 => match truW S1 x with
  | some b => if b = true then mb bs env S1 else .ok x S1
  | none => .stuck
def mOrV (ma mb : M W) : M W := fun bs env S => (ma bs env S).bind fun x S1 => match truW S1 x with
  | some b => if b = true then .ok x S1 else mb bs env S1
  | none => .stuck
def mNotV (ma : M W) : M W := fun bs env S => (ma bs env S).bind fun x S1 => match truW S1 x with
  | some b => .ok (.bl (!b)) S1
  | none => .stuck
theorem re_and (hK : g.K = X.K) {rest : List Expr} (ha : PE X a (rd g B ma)) (hb : PE X (.BoolOp .And (b :: rest) pos) (rd g B mb)) : PE X (.BoolOp .And (a :: b :: rest) pos) (rd g B (mAndV ma mb)) := (pe_andT ha hb).imp fun σ H Q ⟨bs, ρ, F, N, env, S, s, e, p⟩ => by
  refine ⟨bs, ρ, F, N, env, S, s, e, (Post.bind (R1 := RW g) p).imp fun x H1 ⟨ρ1, F1, wx, S1, g1, s1, r1, p1⟩ => ?_⟩
  split at p1
  · rename_i b hb
    refine ⟨b, by rw [← hK]; exact tru_of s1 r1 hb, ?_⟩
    cases b with
    | true => exact ⟨bs, ρ1, F1, N, env, S1, s1, e.mono g1, p1⟩
    | false => exact p1 ρ1 F1 H1 _ (Grow.refl _ _) s1 r1
  · exact p1.elim
theorem re_or (hK : g.K = X.K) {rest : List Expr} (ha : PE X a (rd g B ma)) (hb : PE X (.BoolOp .Or (b :: rest) pos) (rd g B mb)) : PE X (.BoolOp .Or (a :: b :: rest) pos) (rd g B (mOrV ma mb)) := (pe_orT ha hb).imp fun σ H Q ⟨bs, ρ, F, N, env, S, s, e, p⟩ => by
  refine ⟨bs, ρ, F, N, env, S, s, e, (Post.bind (R1 := RW g) p).imp fun x H1 ⟨ρ1, F1, wx, S1, g1, s1, r1, p1⟩ => ?_⟩
  split at p1
  · rename_i b hb
    refine ⟨b, by rw [← hK]; exact tru_of s1 r1 hb, ?_⟩
    cases b with
    | true => exact p1 ρ1 F1 H1 _ (Grow.refl _ _) s1 r1
    | false => exact ⟨bs, ρ1, F1, N, env, S1, s1, e.mono g1, p1⟩
  · exact p1.elim
theorem re_one {op : BoolOp} (ha : PE X a (rd g B ma)) : PE X (.BoolOp op [a] pos) (rd g B ma) := pe_one ha
theorem re_not (hK : g.K = X.K) (ha : PE X a (rd g B ma)) : PE X (.UnaryOp .Not a pos) (rd g B (mNotV ma)) := (pe_notT ha).imp fun σ H Q ⟨bs, ρ, F, N, env, S, s, e, p⟩ => by
  refine ⟨bs, ρ, F, N, env, S, s, e, (Post.bind (R1 := RW g) p).imp fun x H1 ⟨ρ1, F1, wx, S1, g1, s1, r1, p1⟩ => ?_⟩
  split at p1
  · rename_i b hb
    exact ⟨b, by rw [← hK]; exact tru_of s1 r1 hb, p1 ρ1 F1 H1 _ (Grow.refl _ _) s1 (.dat (.bl _))⟩
  · exact p1.elim
def mNeg (ma : M W) : M W := fun bs env S => (ma bs env S).bind fun x S1 => match x with
  | .dat (.int i) => .ok (.int (-i)) S1
  | _ => .stuck
theorem re_neg (ha : PE X a (rd g B ma)) : PE X (.UnaryOp .USub a pos) (rd g B (mNeg ma)) := (pe_un un_neg ha).imp fun σ H Q ⟨bs, ρ, F, N, env, S, s, e, p⟩ => by
  refine ⟨bs, ρ, F, N, env, S, s, e, (Post.bind (R1 := RW g) p).imp fun x H1 ⟨ρ1, F1, wx, S1, g1, s1, r1, p1⟩ => ?_⟩
  split at p1
  · rw [is_int r1]; exact ⟨_, rfl, p1 ρ1 F1 H1 _ (Grow.refl _ _) s1 (.dat (.int _))⟩
  · exact p1.elim
end
end Rf

set_option maxHeartbeats 4000000
namespace Rf
open PySem L2

/-! ### dicts by data -/
def keyD : PyData → Option Key
  | .int i => some (.inl i)
  | .str x => some (.inr x)
  | _ => none
def keysD : List PyData → Option (List Key)
  | [] => some []
  | d :: ds => match keyD d, keysD ds with
    | some k, some ks => some (k :: ks)
    | _, _ => none
theorem keyD_eq {d : PyData} {k : Key} (h : keyD d = some k) : d = kD k := by
  cases d <;> simp [keyD] at h <;> subst h <;> rfl
@[simp] theorem keyD_kD (k : Key) : keyD (kD k) = some k := by cases k <;> rfl
theorem keysD_eq : ∀ {ds : List PyData} {ks : List Key}, keysD ds = some ks → ds = ks.map kD
  | [], _, h => by simp [keysD] at h; subst h; rfl
  | d :: ds, _, h => by
    simp only [keysD] at h
    split at h
    · rename_i k ks h1 h2
      cases h
      rw [keyD_eq h1, keysD_eq h2]; rfl
    · cases h
@[simp] theorem keysD_map (ks : List Key) : keysD (ks.map kD) = some ks := by
  induction ks with
  | nil => rfl
  | cons k ks ih => simp [keysD, ih]
theorem kD_inj : ∀ {a b : Key}, kD a = kD b → a = b
  | .inl i, .inl j, h => by injection h with h; rw [h]
  | .inr i, .inr j, h => by injection h with h; rw [h]
  | .inl i, .inr j, h => nomatch h
  | .inr i, .inl j, h => nomatch h
theorem kDs_inj : ∀ {a b : List Key}, a.map kD = b.map kD → a = b
  | [], [], _ => rfl
  | [], _ :: _, h => by simp at h
  | _ :: _, [], h => by simp at h
  | x :: xs, y :: ys, h => by
    simp only [List.map_cons, List.cons.injEq] at h
    rw [kD_inj h.1, kDs_inj h.2]
theorem rp_key {K : PySem.W.Frag} {F : Hp} {v : V} {k : Key} (h : Rp K F v (kD k)) : v = kV k := by
  cases k with
  | inl i => cases h; rfl
  | inr x => cases h; rfl
theorem rp_keys {K : PySem.W.Frag} {F : Hp} : ∀ {ks : List Key} {vs : List V}, RpAll K F vs (ks.map kD) → vs = ks.map kV
  | [], _, h => by cases h; rfl
  | k :: ks, _, h => by
    cases h with
    | cons a b => rw [rp_key a, rp_keys b]; rfl
/-- what stands at an item that equals a key -/
inductive DKey where
  | one (k : Key)
  | tup (ks : List Key)
  deriving DecidableEq
def dkey : PyData → Option DKey
  | .tuple ds => (keysD ds).map .tup
  | d => (keyD d).map .one
def DKey.d : DKey → PyData
  | .one k => kD k
  | .tup ks => .tuple (ks.map kD)
theorem dkey_eq {d : PyData} {k : DKey} (h : dkey d = some k) : d = k.d := by
  unfold dkey at h
  split at h
  · simp only [Option.map_eq_some_iff] at h
    obtain ⟨ks, h, rfl⟩ := h
    rw [keysD_eq h]; rfl
  · simp only [Option.map_eq_some_iff] at h
    obtain ⟨ks, h, rfl⟩ := h
    rw [keyD_eq h]; rfl
@[simp] theorem dkey_d (k : DKey) : dkey k.d = some k := by
  cases k with
  | one k => cases k <;> rfl
  | tup ks => simp [DKey.d, dkey]
theorem DKey.inj {a b : DKey} (h : a.d = b.d) : a = b := by
  have := dkey_d a
  rw [h, dkey_d] at this
  cases this; rfl
def lookW (ws : List (PyData × W)) (k : DKey) : Option W := (ws.find? fun p => decide (dkey p.1 = some k)).map (·.2)
def putW (ws : List (PyData × W)) (k : DKey) (w : W) : List (PyData × W) :=
  if (ws.any fun p => decide (dkey p.1 = some k)) then ws.map fun p => if dkey p.1 = some k then (p.1, w) else p else ws ++ [(k.d, w)]
def dropW (ws : List (PyData × W)) (k : DKey) : List (PyData × W) := ws.filter fun p => decide (dkey p.1 ≠ some k)
/-- all keys of one kind: 0 ints and texts, 1 tuples of these -/
def kindK (k : DKey) : Nat := match k with | .one _ => 0 | .tup _ => 1
def dicOf (S : Store) : W → Option (List (PyData × W))
  | .dat (.dict kvs) => some (kvs.map fun p => (p.1, .dat p.2))
  | .loc n => match S[n]? with
    | some (.dic ws) => some ws
    | _ => none
  | _ => none
section
variable {K : PySem.W.Frag} {ρ : List Addr} {F N H : Hp}
theorem RpKV.isKV : ∀ {vs : List (PyData × V)} {ds : List (PyData × PyData)}, RpKV K F vs ds → IsKV K ρ F vs (ds.map fun p => (p.1, .dat p.2))
  | _, [], h => by cases h; exact .nil
  | _, (k, d) :: ds, h => by
    cases h with
    | cons a b => exact .cons (.dat a) (RpKV.isKV b)
theorem isKV_val {vs : List (PyData × V)} {ws : List (PyData × W)} (h : IsKV K ρ F vs ws) (k : DKey) : match lookW ws k with
    | some w => ∃ v, (vs.find? fun p => decide (dkey p.1 = some k)).map (·.2) = some v ∧ Is K ρ F v w
    | none => (vs.find? fun p => decide (dkey p.1 = some k)).map (·.2) = none := by
  induction h with
  | nil => rfl
  | @cons k' v vs w ws a b ih =>
    unfold lookW at ih ⊢
    rw [List.find?_cons, List.find?_cons]
    by_cases e : dkey k' = some k
    · simp only [decide_eq_true e]; exact ⟨v, rfl, a⟩
    · simp only [decide_eq_false e]; exact ih
theorem valK_eq (kvs : List (Key × V)) (k : Key) : ((kvs.map fun p => (kD p.1, p.2)).find? fun p => decide (dkey p.1 = some (.one k))).map (·.2) = valV kvs k := by
  unfold valV
  induction kvs with
  | nil => rfl
  | cons p kvs ih =>
    rw [List.map_cons, List.find?_cons, List.find?_cons]
    have e : decide (dkey (kD p.1) = some (.one k)) = decide (p.1 = k) := by
      have z : dkey (kD p.1) = some (.one p.1) := dkey_d (.one p.1)
      rw [z]; simp
    simp only [e]
    by_cases q : p.1 = k
    · simp [q]
    · simp [q]; simpa using ih
theorem valT_eq (kvs : List (List Key × V)) (k : List Key) : ((kvs.map fun p => (PyData.tuple (p.1.map kD), p.2)).find? fun p => decide (dkey p.1 = some (.tup k))).map (·.2) = valV kvs k := by
  unfold valV
  induction kvs with
  | nil => rfl
  | cons p kvs ih =>
    rw [List.map_cons, List.find?_cons, List.find?_cons]
    have e : decide (dkey (.tuple (p.1.map kD)) = some (.tup k)) = decide (p.1 = k) := by
      have z : dkey (.tuple (p.1.map kD)) = some (.tup p.1) := dkey_d (.tup p.1)
      rw [z]; simp
    simp only [e]
    by_cases q : p.1 = k
    · simp [q]
    · simp [q]; simpa using ih
end
/-- the dict in the heap, of one kind -/
inductive DicH (H : Hp) (a : Addr) : Nat → List (PyData × V) → Prop
  | k {kvs : List (Key × V)} : H a = some (.dK kvs) → DicH H a 0 (kvs.map fun p => (kD p.1, p.2))
  | t {kvs : List (List Key × V)} : H a = some (.dT kvs) → DicH H a 1 (kvs.map fun p => (.tuple (p.1.map kD), p.2))
section
variable {X : Cx} {g : Gx} {bs : List Nat} {ρ : List Addr} {F N H : Hp} {S : Store} {v : V} {w : W}
theorem dic_of {ws : List (PyData × W)} (s : Sim g bs ρ F N S H) (r : Is g.K ρ F v w) (h : dicOf S w = some ws) : ∃ a n vs, v = .ref a ∧ DicH H a n vs ∧ IsKV g.K ρ F vs ws := by
  cases w with
  | dat d =>
    cases d <;> simp only [dicOf] at h <;> try cases h
    cases r with
    | dat r => cases r with
      | dicK e q => exact ⟨_, _, _, rfl, .k (s.ex _ _ e), q.isKV⟩
      | dicT e q => exact ⟨_, _, _, rfl, .t (s.ex _ _ e), q.isKV⟩
  | loc n =>
    simp only [dicOf] at h
    split at h
    · rename_i xs hn
      cases h
      cases r with
      | loc hr =>
        rcases s.cell n _ _ hn hr with ⟨kvs, e, q⟩ | ⟨kvs, e, q⟩
        · exact ⟨_, _, _, rfl, .k e, q⟩
        · exact ⟨_, _, _, rfl, .t e, q⟩
    · cases h
  | tw xs => simp [dicOf] at h
  | lw xs => simp [dicOf] at h
  | kt xs => simp [dicOf] at h
/-- an empty dict may be of either kind -/
theorem inv_kind {pins : List (Addr × Obj)} {σ : L2.St} {s : Shared} {a : Addr} (I : Inv X pins σ H s) (h : H a = some (.dK [])) : Inv X pins σ (upd H a (.dT [])) s := by
  obtain ⟨z, hd, vs, rel, o, es, ep, h1, h2, h3, h4, h5, h6⟩ := dk_of I.hok h
  cases rel
  cases es with
  | mk l =>
    cases l with
    | nil =>
      refine I.write (h' := s.heap) (t' := s.toks) (x := a) (e := a) (by rw [h]; trivial) (.inl rfl) (fun b u _ q => q) ⟨_, h1⟩ ⟨Nat.zero_le _, hd, [], .nil, o, _, ep, h1, h2, h3, rfl, .nil⟩
    | cons x xs => cases h5
theorem inv_kind' {pins : List (Addr × Obj)} {σ : L2.St} {s : Shared} {a : Addr} (I : Inv X pins σ H s) (h : H a = some (.dT [])) : Inv X pins σ (upd H a (.dK [])) s := by
  obtain ⟨z, hd, xs, rel, o, es, ep, h1, h2, h3, h4, h5⟩ := (show ObjOk X.prog X.w H s.heap a (.dT []) from I.hok a _ h)
  cases rel
  cases es with
  | mk l =>
    cases l with
    | nil =>
      refine I.write (h' := s.heap) (t' := s.toks) (x := a) (e := a) (by rw [h]; trivial) (.inl rfl) (fun b u _ q => q) ⟨_, h1⟩ (dk_new (kvs := []) (vs := []) (Nat.zero_le _) hd .nil ⟨o, _, ep, h1, h2, h3, fun x hx => by simp at hx, ?_, .nil⟩)
      exact .nil
    | cons x xs => simp at h4
end
end Rf

set_option maxHeartbeats 4000000
namespace Rf
open PySem L2

/-! ### an item -/
def ixF : Op2 := fun _ x y S => match seqOf S x, y with
  | some ws, .dat (.int i) => (atI ws i).map (·, S)
  | some _, _ => none
  | none, y => match x, y with
    | .dat (.str z), .dat (.int i) => if z.length ≤ 100000 then (atI z.cps.toList i).map fun c => (.str ⟨#[c]⟩, S) else none
    | x, .dat d => match dicOf S x, dkey d with
      | some ws, some k => (lookW ws k).map (·, S)
      | _, _ => none
    | _, _ => none
section
variable {X : Cx} {g : Gx}
/-- the key in the heap -/
theorem key_one {K : PySem.W.Frag} {F : Hp} {v : V} {k : Key} (r : Rp K F v (DKey.one k).d) : v = kV k := rp_key r
theorem key_tup {K : PySem.W.Frag} {F H : Hp} {v : V} {ks : List Key} (e : Same F H) (r : Rp K F v (DKey.tup ks).d) : ∃ b, v = .ref b ∧ H b = some (.tup (ks.map kV)) := by
  have r' : Rp K F v (.tuple (ks.map kD)) := r
  cases r' with
  | tup q r => rw [rp_keys r] at q; exact ⟨_, rfl, e _ _ q⟩
theorem dic_get {H : Hp} {a : Addr} {n : Nat} {vs : List (PyData × V)} {K : PySem.W.Frag} {F : Hp} {v : V} {k : DKey} (d : DicH H a n vs) (e : Same F H) (r : Rp K F v k.d) (h : kindK k = n) :
    DGet H a v ((vs.find? fun p => decide (dkey p.1 = some k)).map (·.2)) := by
  cases d with
  | k hk =>
    cases k with
    | one k => rw [key_one r, valK_eq]; exact DGet.k hk
    | tup ks => simp [kindK] at h
  | t hk =>
    cases k with
    | one k => simp [kindK] at h
    | tup ks => obtain ⟨b, rfl, hb⟩ := key_tup e r; rw [valT_eq]; exact DGet.t hk hb
/-- a key found says the kind -/
theorem look_kind {H : Hp} {a : Addr} {n : Nat} {vs : List (PyData × V)} {k : DKey} {v : V} (d : DicH H a n vs) (h : (vs.find? fun p => decide (dkey p.1 = some k)).map (·.2) = some v) : kindK k = n := by
  obtain ⟨p, h1, _⟩ := Option.map_eq_some_iff.mp h
  have hm := List.mem_of_find?_eq_some h1
  have hp := List.find?_some h1
  simp only [decide_eq_true_eq] at hp
  cases d with
  | k hk =>
    obtain ⟨q, _, rfl⟩ := List.mem_map.mp hm
    have z : dkey (kD q.1) = some (.one q.1) := dkey_d (.one q.1)
    rw [z] at hp; cases hp; rfl
  | t hk =>
    obtain ⟨q, _, rfl⟩ := List.mem_map.mp hm
    have z : dkey (.tuple (q.1.map kD)) = some (.tup q.1) := dkey_d (.tup q.1)
    rw [z] at hp; cases hp; rfl
theorem subTail {prog : Program} {w : World} {A : Around} {E : Value → Shared → Prop} {s : Shared} {value slice : Expr} {o i : Value} {T id : String} {Q : Value → Shared → Prop} (hT : s.TypeIs o T)
    (hl : typeLookup (.type T) "__getitem__" = pure (some (.builtin id))) (h : wpAny (model prog w) A (getItem o i) Q E s) (hs : subscripted slice false o i = operate [o, i] (getItem o i)) : wpAny (model prog w) A (PyProof.Rows.subscriptTail value slice o i) Q E s := by
  unfold PyProof.Rows.subscriptTail
  refine wpAny_bind ?_
  rw [getitemInPython_of_ne hT.not_modules]; refine wpAny_bind (wpAny_specialOf hT hl ?_)
  have fin : wpAny (model prog w) A (subscripted slice false o i) (fun r t => wpAny (model prog w) A (letTemporaryGo value o r >>= fun _ => pure r) Q E t) E s := by
    rw [hs]; exact wpAny_operating (wpAny_mono h (fun r t ht => wpAny_bind (wpAny_letTemporaryGo (wpAny_pure ht))) fun _ _ x => x)
  first
    | exact wpAny_pure (wpAny_bind fin)
    | exact wpAny_bind (wpAny_pure (wpAny_bind fin))
    | exact wpAny_bind fin
theorem ix_dict (hu : X.A.units + 100 < cLine) : IxR X (fun x y H Q => ∃ a v, x = .ref a ∧ DGet H a y (some v) ∧ Q v H) := by
  intro value slice pins s σ H x y v u Q I rx ry ⟨a, w, e, d, q⟩ hs
  subst e
  cases rx
  exact subTail (dict_typeIs I d) PySem.F.slot_dict_getitem.lookup (d_getItem (by omega) I d ry fun w' s' I' r' => ⟨w, H, I', r', q⟩) hs
theorem ro_ix (hK : g.K = X.K) (hu : X.A.units + 100 < cLine) : IxR X (rd2 g ixF) := by
  intro value slice pins s σ H x y v u Q I rx ry ⟨bs, ρ, F, N, S, wx, wy, s1, r1, r2, p⟩ hs
  unfold ixF at p
  split at p
  · rename_i ws i h1
    cases hz : atI ws i with
    | none => rw [hz] at p; exact p.elim
    | some z =>
      rw [hz] at p
      obtain ⟨a, vs, e1, q1, l1⟩ := seq_of s1 r1 h1
      obtain ⟨x', hx, rx'⟩ := l1.atI hz
      subst e1
      rw [is_int r2] at ry
      have q : Q x' H := p ρ F H _ (Grow.refl _ _) s1 rx'
      rw [hK] at q1
      rcases q1 with q1 | q1
      · exact ix_list value slice pins s σ H _ _ v u Q I rx ry ⟨a, vs, i, x', rfl, rfl, q1, hx, q⟩ hs
      · exact ix_tup value slice pins s σ H _ _ v u Q I rx ry ⟨a, vs, i, x', rfl, rfl, q1, hx, q⟩ hs
  · exact p.elim
  · split at p
    · rename_i _ z i _
      split at p
      · rename_i hl
        cases hz : atI z.cps.toList i with
        | none => rw [hz] at p; exact p.elim
        | some c =>
          rw [hz] at p
          rw [is_str r1] at rx; rw [is_int r2] at ry
          exact ix_str value slice pins s σ H _ _ v u Q I rx ry ⟨z, i, c, rfl, rfl, line5 hl, hz, p ρ F H _ (Grow.refl _ _) s1 (.dat (.str _))⟩ hs
      · exact p.elim
    · rename_i d _
      split at p
      · rename_i ws k h1 h2
        cases hz : lookW ws k with
        | none => rw [hz] at p; exact p.elim
        | some z =>
          rw [hz] at p
          obtain ⟨a, n, vs, e1, dh, l1⟩ := dic_of s1 r1 h1
          subst e1
          have hv := isKV_val l1 k
          rw [hz] at hv
          obtain ⟨x', hx, rx'⟩ := hv
          have hd := dkey_eq h2
          subst hd
          cases r2 with
          | dat r2 =>
            have dg := dic_get dh s1.ex r2 (look_kind dh hx)
            rw [hx] at dg
            exact ix_dict hu value slice pins s σ H _ _ v u Q I rx ry ⟨a, x', rfl, dg, p ρ F H _ (Grow.refl _ _) s1 rx'⟩ hs
      · exact p.elim
    · exact p.elim
variable {B : WX} {a b c e : Expr} {es : List Expr} {ma mb mc : M W} {ms : M (List W)} {pos : Pos}
theorem re_ix (hK : g.K = X.K) (hu : X.A.units + 100 < cLine) (ha : PE X a (rd g B ma)) (hb : PE X b (rd g B mb)) (hs : PlainIx b := by intro _ _; rfl) : PE X (.Subscript a b pos) (rd g B (mBin ixF ma mb)) := (pe_ix (ro_ix hK hu) ha hb hs).imp rd_bin

/-! ### calls of built-ins -/
abbrev OpN := List Nat → List W → Store → Option (W × Store)
def mCB (f : OpN) (ms : M (List W)) : M W := fun bs env S => (ms bs env S).bind fun ws S1 => match f bs ws S1 with
  | some (w, S2) => .ok w S2
  | none => .stuck
def rdN (g : Gx) (f : OpN) : List V → Hp → VK → Prop := fun xs H Q => ∃ bs ρ F N S ws, Sim g bs ρ F N S H ∧ IsAll g.K ρ F xs ws ∧ PostV g bs ρ F N Q (f bs ws S)
theorem rd_CB {f : OpN} (σ : L2.St) (H : Hp) (Q : VK) (h : rd g B (mCB f ms) σ H Q) : tCB (rdN g f) (rdA g B ms) σ H Q := by
  obtain ⟨bs, ρ, F, N, env, S, s, e, p⟩ := h
  exact ⟨bs, ρ, F, N, env, S, s, e, (Post.bind p).imp fun x H1 ⟨ρ1, F1, wx, S1, g1, s1, r1, p1⟩ => ⟨bs, ρ1, F1, N, S1, wx, s1, r1, post_op p1⟩⟩
theorem re_callB {f : OpN} {x : Str} {id : String} {p : Pos} (hc : CallR X (.builtin id) (rdN g f)) (hg : Gl X x) (hm : X.mg x = none) (hv : bootBuiltins x = some (.builtin id)) (ha : PA X (e :: es) (rdA g B ms)) (hn : x ≠ "__name__" := by decide) (hdb : (x == ("__debug__" : Str)) = false := by decide)
    (he : starEach (e :: es) X.env = (false, eval e X.env) :: starEach es X.env := by rfl) (hpl : (backTo pos (starEach es X.env)).any (·.1) = false := by rfl) : PE X (.Call (.Name x p) (e :: es) [] pos) (rd g B (mCB f ms)) := (pe_callB hc hg hm hv ha hn hdb he hpl).imp rd_CB
theorem re_callTy {f : OpN} {x : Str} {T : String} {p : Pos} (hc : CallR X (.type T) (rdN g f)) (hg : Gl X x) (hm : X.mg x = none) (hv : bootBuiltins x = some (.type T)) (ha : PA X (e :: es) (rdA g B ms)) (hn : x ≠ "__name__" := by decide) (hdb : (x == ("__debug__" : Str)) = false := by decide)
    (he : starEach (e :: es) X.env = (false, eval e X.env) :: starEach es X.env := by rfl) (hpl : (backTo pos (starEach es X.env)).any (·.1) = false := by rfl) : PE X (.Call (.Name x p) (e :: es) [] pos) (rd g B (mCB f ms)) := (pe_callTy hc hg hm hv ha hn hdb he hpl).imp rd_CB
end
end Rf

set_option maxHeartbeats 4000000
namespace Rf
open PySem L2

section
variable {X : Cx} {g : Gx}
/-- a value of one argument that changes nothing -/
def un (f : Store → W → Option W) : OpN := fun _ ws S => match ws with
  | [w] => (f S w).map (·, S)
  | _ => none
theorem all_one {K : PySem.W.Frag} {ρ : List Addr} {F : Hp} {vs : List V} {w : W} (h : IsAll K ρ F vs [w]) : ∃ v, vs = [v] ∧ Is K ρ F v w := by
  cases h with
  | cons a b => cases b; exact ⟨_, rfl, a⟩
theorem all_two {K : PySem.W.Frag} {ρ : List Addr} {F : Hp} {vs : List V} {w u : W} (h : IsAll K ρ F vs [w, u]) : ∃ v x, vs = [v, x] ∧ Is K ρ F v w ∧ Is K ρ F x u := by
  cases h with
  | cons a b => cases b with
    | cons b c => cases c; exact ⟨_, _, rfl, a, b⟩
def lenW (S : Store) (w : W) : Option W := match seqOf S w with
  | some ws => some (.int ws.length)
  | none => match w with
    | .dat (.str x) => if x.length ≤ 100000 then some (.int x.length) else none
    | _ => none
theorem rc_len (hK : g.K = X.K) : CallR X (.builtin "len") (rdN g (un lenW)) := by
  intro pins s σ H xs us Q I r ⟨bs, ρ, F, N, S, ws, s1, r1, p⟩
  unfold un at p
  split at p
  · rename_i w
    obtain ⟨v, rfl, r2⟩ := all_one r1
    unfold lenW at p
    split at p
    · rename_i ws h1
      obtain ⟨a, vs, rfl, q1, l1⟩ := seq_of s1 r2 h1
      rw [hK] at q1
      exact call_len_seq pins s σ H _ us Q I r ⟨a, vs, rfl, q1, by rw [l1.len]; exact p ρ F H _ (Grow.refl _ _) s1 (.dat (.int _))⟩
    · split at p
      · skip
        split at p
        · rename_i hl
          rw [is_str r2] at r
          exact call_len_str pins s σ H _ us Q I r ⟨_, rfl, line5 hl, p ρ F H _ (Grow.refl _ _) s1 (.dat (.int _))⟩
        · exact p.elim
      · exact p.elim
  · exact p.elim
def absW (_ : Store) (w : W) : Option W := match w with
  | .dat (.int i) => some (.int (if i < 0 then -i else i))
  | _ => none
theorem rc_abs : CallR X (.builtin "abs") (rdN g (un absW)) := by
  intro pins s σ H xs us Q I r ⟨bs, ρ, F, N, S, ws, s1, r1, p⟩
  unfold un at p
  split at p
  · obtain ⟨v, rfl, r2⟩ := all_one r1
    unfold absW at p
    split at p
    · rw [is_int r2] at r
      exact call_abs pins s σ H _ us Q I r ⟨_, rfl, p ρ F H _ (Grow.refl _ _) s1 (.dat (.int _))⟩
    · exact p.elim
  · exact p.elim
def intW (_ : Store) (w : W) : Option W := match w with
  | .dat (.int i) => some (.int i)
  | .dat (.bool b) => some (.int (if b then 1 else 0))
  | _ => none
theorem rc_int : CallR X (.type "int") (rdN g (un intW)) := by
  intro pins s σ H xs us Q I r ⟨bs, ρ, F, N, S, ws, s1, r1, p⟩
  unfold un at p
  split at p
  · obtain ⟨v, rfl, r2⟩ := all_one r1
    unfold intW at p
    split at p
    · rw [is_int r2] at r
      exact call_int1 pins s σ H _ us Q I r (.inl ⟨_, rfl, p ρ F H _ (Grow.refl _ _) s1 (.dat (.int _))⟩)
    · rw [is_bl r2] at r
      exact call_int1 pins s σ H _ us Q I r (.inr ⟨_, rfl, p ρ F H _ (Grow.refl _ _) s1 (.dat (.int _))⟩)
    · exact p.elim
  · exact p.elim
def strW (_ : Store) (w : W) : Option W := match w with
  | .dat (.int i) => if i.natAbs.log2 < 1920 then some (.str (toString i)) else none
  | _ => none
theorem rc_str : CallR X (.type "str") (rdN g (un strW)) := by
  intro pins s σ H xs us Q I r ⟨bs, ρ, F, N, S, ws, s1, r1, p⟩
  unfold un at p
  split at p
  · obtain ⟨v, rfl, r2⟩ := all_one r1
    unfold strW at p
    split at p
    · split at p
      · rename_i hl
        rw [is_int r2] at r
        exact call_str_int pins s σ H _ us Q I r ⟨_, rfl, hl, p ρ F H _ (Grow.refl _ _) s1 (.dat (.str _))⟩
      · exact p.elim
    · exact p.elim
  · exact p.elim
def two (f : Int → Int → Int) : OpN := fun _ ws S => match ws with
  | [.dat (.int i), .dat (.int j)] => some (.int (f i j), S)
  | _ => none
theorem rc_two {n : String} {f : Int → Int → Int} (hc : CallR X (.builtin n) (fun xs H Q => ∃ i j, xs = [.int i, .int j] ∧ Q (.int (f i j)) H)) : CallR X (.builtin n) (rdN g (two f)) := by
  intro pins s σ H xs us Q I r ⟨bs, ρ, F, N, S, ws, s1, r1, p⟩
  unfold two at p
  split at p
  · obtain ⟨v, x, rfl, r2, r3⟩ := all_two r1
    rw [is_int r2, is_int r3] at r
    exact hc pins s σ H _ us Q I r ⟨_, _, rfl, p ρ F H _ (Grow.refl _ _) s1 (.dat (.int _))⟩
  · exact p.elim
def max2F : OpN := two fun i j => if j > i then j else i
def min2F : OpN := two fun i j => if j < i then j else i
theorem rc_max2 (hc : X.calm = true) : CallR X (.builtin "max") (rdN g max2F) := rc_two (call_max2 hc)
theorem rc_min2 (hc : X.calm = true) : CallR X (.builtin "min") (rdN g min2F) := rc_two (call_min2 hc)
/-- list(..) of a sequence -/
def listF (k : Bool) : OpN := fun _ ws S => match ws with
  | [w] => (seqOf S w).map fun xs => newL k xs S
  | _ => none
theorem rc_list (hK : g.K = X.K) {k : Bool} : CallR X (.type "list") (rdN g (listF k)) := by
  intro pins s σ H xs us Q I r ⟨bs, ρ, F, N, S, ws, s1, r1, p⟩
  unfold listF at p
  split at p
  · rename_i w
    obtain ⟨v, rfl, r2⟩ := all_one r1
    cases h1 : seqOf S w with
    | none => rw [h1] at p; exact p.elim
    | some ws =>
      rw [h1] at p
      obtain ⟨a, vs, rfl, q1, l1⟩ := seq_of s1 r2 h1
      rw [hK] at q1
      exact call_list_of pins s σ H _ us Q I r ⟨a, vs, rfl, q1, fun q hq => new_ok s1 hq l1 p⟩
  · exact p.elim
/-- tuple(..) of a list; of a tuple: itself -/
def tupleF : OpN := fun _ ws S => match ws with
  | [w] => match tupOf w with
    | some _ => some (w, S)
    | none => (lstOf S w).map fun xs => (mkTup xs, S)
  | _ => none
theorem rc_tuple (hK : g.K = X.K) : CallR X (.type "tuple") (rdN g tupleF) := by
  intro pins s σ H xs us Q I r ⟨bs, ρ, F, N, S, ws, s1, r1, p⟩
  unfold tupleF at p
  split at p
  · rename_i w
    obtain ⟨v, rfl, r2⟩ := all_one r1
    split at p
    · rename_i xs h1
      obtain ⟨a, vs, rfl, q1, l1⟩ := tup_of r2 h1
      rw [hK] at q1
      exact call_tuple_of pins s σ H _ us Q I r ⟨a, vs, rfl, .inr ⟨Same.sqT s1.ex q1, p ρ F H _ (Grow.refl _ _) s1 r2⟩⟩
    · cases h1 : lstOf S w with
      | none => rw [h1] at p; exact p.elim
      | some ws =>
        rw [h1] at p
        obtain ⟨a, vs, rfl, q1, l1⟩ := lst_of s1 r2 h1
        rw [hK] at q1
        exact call_tuple_of pins s σ H _ us Q I r ⟨a, vs, rfl, .inl ⟨q1, fun q hq => newT_ok s1 hq l1 p⟩⟩
  · exact p.elim
/-- the bools, the intsW of a list -/
def bools : List W → Option (List Bool)
  | [] => some []
  | .dat (.bool b) :: ws => (bools ws).map (b :: ·)
  | _ :: _ => none
theorem bools_is {K : PySem.W.Frag} {ρ : List Addr} {F : Hp} : ∀ {ws : List W} {vs : List V} {xs : List Bool}, IsAll K ρ F vs ws → bools ws = some xs → vs = xs.map V.bl
  | [], _, _, h, e => by cases h; simp [bools] at e; subst e; rfl
  | w :: ws, _, _, .cons a b, e => by
    unfold bools at e
    split at e
    · rename_i h; cases h
    · rename_i b' ws' h
      cases h
      simp only [Option.map_eq_some_iff] at e
      obtain ⟨xs, e, rfl⟩ := e
      rw [is_bl a, bools_is b e]; rfl
    · cases e
@[simp] theorem bools_map (xs : List Bool) : bools (xs.map W.bl) = some xs := by
  induction xs with
  | nil => rfl
  | cons x xs ih => simp only [List.map_cons, W.bl, bools, Option.map_eq_some_iff]; exact ⟨xs, ih, rfl⟩
def intsW : List W → Option (List Int)
  | [] => some []
  | .dat (.int b) :: ws => (intsW ws).map (b :: ·)
  | _ :: _ => none
theorem ints_is {K : PySem.W.Frag} {ρ : List Addr} {F : Hp} : ∀ {ws : List W} {vs : List V} {xs : List Int}, IsAll K ρ F vs ws → intsW ws = some xs → vs = xs.map V.int
  | [], _, _, h, e => by cases h; simp [intsW] at e; subst e; rfl
  | w :: ws, _, _, .cons a b, e => by
    unfold intsW at e
    split at e
    · rename_i h; cases h
    · rename_i b' ws' h
      cases h
      simp only [Option.map_eq_some_iff] at e
      obtain ⟨xs, e, rfl⟩ := e
      rw [is_int a, ints_is b e]; rfl
    · cases e
@[simp] theorem ints_map (xs : List Int) : intsW (xs.map W.int) = some xs := by
  induction xs with
  | nil => rfl
  | cons x xs ih => simp only [List.map_cons, W.int, intsW, Option.map_eq_some_iff]; exact ⟨xs, ih, rfl⟩
theorem ints_all {K : PySem.W.Frag} {ρ : List Addr} {F : Hp} : ∀ ns : List Int, IsAll K ρ F (ns.map V.int) (ns.map W.int)
  | [] => .nil
  | n :: ns => .cons (.dat (.int n)) (ints_all ns)
def allF (S : Store) (w : W) : Option W := match lstOf S w with
  | some ws => (bools ws).map fun xs => .bl (xs.all id)
  | none => none
def anyF (S : Store) (w : W) : Option W := match lstOf S w with
  | some ws => (bools ws).map fun xs => .bl (xs.any id)
  | none => none
def sumF (S : Store) (w : W) : Option W := match lstOf S w with
  | some ws => (intsW ws).map fun xs => .int xs.sum
  | none => none
theorem rc_all (hK : g.K = X.K) (hc : X.calm = true) : CallR X (.builtin "all") (rdN g (un allF)) := by
  intro pins s σ H xs us Q I r ⟨bs, ρ, F, N, S, ws, s1, r1, p⟩
  unfold un at p
  split at p
  · obtain ⟨v, rfl, r2⟩ := all_one r1
    unfold allF at p
    split at p
    · rename_i ws h1
      obtain ⟨a, vs, rfl, q1, l1⟩ := lst_of s1 r2 h1
      rw [hK] at q1
      cases h2 : bools ws with
      | none => rw [h2] at p; exact p.elim
      | some xs =>
        rw [h2] at p
        rw [bools_is l1 h2] at q1
        exact cr_all hc pins s σ H _ us Q I r ⟨a, xs, rfl, q1, p ρ F H _ (Grow.refl _ _) s1 (.dat (.bl _))⟩
    · exact p.elim
  · exact p.elim
theorem rc_any (hK : g.K = X.K) (hc : X.calm = true) : CallR X (.builtin "any") (rdN g (un anyF)) := by
  intro pins s σ H xs us Q I r ⟨bs, ρ, F, N, S, ws, s1, r1, p⟩
  unfold un at p
  split at p
  · obtain ⟨v, rfl, r2⟩ := all_one r1
    unfold anyF at p
    split at p
    · rename_i ws h1
      obtain ⟨a, vs, rfl, q1, l1⟩ := lst_of s1 r2 h1
      rw [hK] at q1
      cases h2 : bools ws with
      | none => rw [h2] at p; exact p.elim
      | some xs =>
        rw [h2] at p
        rw [bools_is l1 h2] at q1
        exact cr_any hc pins s σ H _ us Q I r ⟨a, xs, rfl, q1, p ρ F H _ (Grow.refl _ _) s1 (.dat (.bl _))⟩
    · exact p.elim
  · exact p.elim
theorem rc_sum (hK : g.K = X.K) (hc : X.calm = true) : CallR X (.builtin "sum") (rdN g (un sumF)) := by
  intro pins s σ H xs us Q I r ⟨bs, ρ, F, N, S, ws, s1, r1, p⟩
  unfold un at p
  split at p
  · obtain ⟨v, rfl, r2⟩ := all_one r1
    unfold sumF at p
    split at p
    · rename_i ws h1
      obtain ⟨a, vs, rfl, q1, l1⟩ := lst_of s1 r2 h1
      rw [hK] at q1
      cases h2 : intsW ws with
      | none => rw [h2] at p; exact p.elim
      | some xs =>
        rw [h2] at p
        rw [ints_is l1 h2] at q1
        exact cr_sum hc pins s σ H _ us Q I r ⟨a, xs, rfl, q1, p ρ F H _ (Grow.refl _ _) s1 (.dat (.int _))⟩
    · exact p.elim
  · exact p.elim
/-- isinstance(x, T), T a built-in type -/
def tyW (S : Store) : W → Option String
  | .dat .none => some "NoneType"
  | .dat (.bool _) => some "bool"
  | .dat (.int _) => some "int"
  | .dat (.str _) => some "str"
  | .dat (.list _) => some "list"
  | .dat (.tuple _) => some "tuple"
  | .dat (.dict _) => some "dict"
  | .tw _ => some "tuple"
  | .lw _ => some "list"
  | .loc n => match S[n]? with
    | some (.lst _) => some "list"
    | some (.dic _) => some "dict"
    | _ => none
  | .kt _ => none
theorem ty_of {bs : List Nat} {ρ : List Addr} {F N H : Hp} {S : Store} {v : V} {w : W} {T : String} (s : Sim g bs ρ F N S H) (r : Is g.K ρ F v w) (h : tyW S w = some T) : TyX g.K H v (.type T) := by
  unfold tyW at h
  split at h <;> try cases h
  · rw [is_non r]; exact .base .non
  · rw [is_bl r]; exact .base (.bl _)
  · rw [is_int r]; exact .base (.int _)
  · rw [is_str r]; exact .base (.str _)
  · cases r with
    | dat r => cases r with
      | lst q _ => exact .base (.lst (s.ex _ _ q))
  · cases r with
    | dat r => cases r with
      | tup q _ => exact .base (.tup (s.ex _ _ q))
  · cases r with
    | dat r => cases r with
      | dicK q _ => exact .base (.dK (s.ex _ _ q))
      | dicT q _ => exact .base (.dT (s.ex _ _ q))
  · cases r with
    | tw q _ =>
      rcases q with (q | ⟨o, q⟩) | ⟨o, its, n, q, c, _⟩
      · exact .base (.tup (s.ex _ _ q))
      · exact .fTuple (s.ex _ _ q)
      · exact .kTuple q c
  · cases r with
    | lw q _ =>
      rcases q with (q | ⟨o, q⟩) | ⟨o, its, n, q, c, _⟩
      · exact .base (.lst (s.ex _ _ q))
      · exact .base (.frz (s.ex _ _ q))
      · exact .kList q c
  · split at h <;> try cases h
    · rename_i hn
      cases r with
      | loc hr => obtain ⟨vs, e, q⟩ := s.cell _ _ _ hn hr; exact .base (.lst e)
    · rename_i hn
      cases r with
      | loc hr =>
        rcases s.cell _ _ _ hn hr with ⟨kvs, e, q⟩ | ⟨kvs, e, q⟩
        · exact .base (.dK e)
        · exact .base (.dT e)
def isiW (T : String) (S : Store) (w : W) : Option W := match tyW S w with
  | some t => (kitB t T).map .bl
  | none => none
def mIsi (T : String) (m : M W) : M W := fun bs env S => (m bs env S).bind fun w S1 => match isiW T S1 w with
  | some u => .ok u S1
  | none => .stuck
variable {B : WX} {a b c e : Expr} {es : List Expr} {ma mb mc : M W} {ms : M (List W)} {pos : Pos}
/-- isinstance with a name of a built-in type -/
theorem re_isi (hK : g.K = X.K) {x t : Str} {T : String} {p q : Pos} (hg : Gl X x) (hm : X.mg x = none) (hv : bootBuiltins x = some (.builtin "isinstance")) (ha : PE X a (rd g B ma)) (hg' : Gl X t) (hm' : X.mg t = none) (hv' : bootBuiltins t = some (.type T))
    (hn : x ≠ "__name__" := by decide) (hdb : (x == ("__debug__" : Str)) = false := by decide) (hn' : t ≠ "__name__" := by decide) (hdb' : (t == ("__debug__" : Str)) = false := by decide)
    (he : starEach [a, .Name t q] X.env = (false, eval a X.env) :: starEach [.Name t q] X.env := by rfl) (hpl : (backTo pos (starEach [.Name t q] X.env)).any (·.1) = false := by rfl) :
    PE X (.Call (.Name x p) [a, .Name t q] [] pos) (rd g B (mIsi T ma)) :=
  (pe_callB call_isi hg hm hv (pa_cons ha (pa_cons (pe_bltn (v := .ty T) hg' hm' hv' rfl hn' hdb') pa_nil) he) hn hdb he hpl).imp fun σ H Q ⟨bs, ρ, F, N, env, S, s, e, p⟩ => by
    refine ⟨bs, ρ, F, N, env, S, s, e, (Post.bind p).imp fun x H1 ⟨ρ1, F1, wx, S1, g1, s1, r1, p1⟩ => ?_⟩
    show rIsi X.K [x, .ty T] H1 Q
    split at p1
    · rename_i u hu
      unfold isiW at hu
      split at hu
      · rename_i t ht
        simp only [Option.map_eq_some_iff] at hu
        obtain ⟨b, hb, rfl⟩ := hu
        have ty := ty_of s1 r1 ht
        rw [hK] at ty
        exact ⟨x, .ty T, .type t, .type T, b, rfl, .ty T, ty, kit_ty hb, p1 ρ1 F1 H1 _ (Grow.refl _ _) s1 (.dat (.bl _))⟩
      · cases hu
    · exact p1.elim
end
end Rf

set_option maxHeartbeats 4000000
namespace Rf
open PySem L2

/-! ### statements -/
inductive SO where
  | nx (env : Env) (S : Store)
  | rt (w : W) (S : Store)
  | bk (env : Env) (S : Store)
  | ct (env : Env) (S : Store)
  | ex (c : Nat) (ws : List W) (env : Env) (S : Store)
  | stuck
abbrev MS := List Nat → Env → Store → SO
def Out.so {α : Type} (o : Out α) (env : Env) (f : α → Store → SO) : SO := match o with
  | .ok a S => f a S
  | .ex c ws S => .ex c ws env S
  | .stuck => .stuck
def PostS (g : Gx) (B : WX) (bs : List Nat) (ρ : List Addr) (F N : Hp) (D : Ends) : SO → Prop
  | .nx e S' => ∀ ρ' F' H' σ', Grow ρ F ρ' F' → Sim g bs ρ' F' N S' H' → EnvR g ρ' F' σ' e → D.nx σ' H'
  | .rt w S' => ∀ ρ' F' H' v, Grow ρ F ρ' F' → Sim g bs ρ' F' N S' H' → Is g.K ρ' F' v w → D.rt v H'
  | .bk e S' => ∀ ρ' F' H' σ', Grow ρ F ρ' F' → Sim g bs ρ' F' N S' H' → EnvR g ρ' F' σ' e → D.bk σ' H'
  | .ct e S' => ∀ ρ' F' H' σ', Grow ρ F ρ' F' → Sim g bs ρ' F' N S' H' → EnvR g ρ' F' σ' e → D.ct σ' H'
  | .ex c ws e S' => ∀ ρ' F' H' σ' d, Grow ρ F ρ' F' → Sim g bs ρ' F' N S' H' → EnvR g ρ' F' σ' e → ExR g c ρ' F' H' d ws → B (.ref (g.cls c)) d σ' H'
  | .stuck => False
def rdS (g : Gx) (B : WX) (m : MS) : TS := fun D σ H => ∃ bs ρ F N env S, Sim g bs ρ F N S H ∧ EnvR g ρ F σ env ∧ PostS g B bs ρ F N D (m bs env S)
section
variable {X : Cx} {g : Gx} {B : WX} {bs : List Nat} {ρ ρ1 : List Addr} {F F1 N : Hp} {D : Ends} {σ : L2.St}
theorem PostS.grow {o : SO} (gr : Grow ρ F ρ1 F1) (h : PostS g B bs ρ F N D o) : PostS g B bs ρ1 F1 N D o := by
  cases o with
  | nx e S => exact fun ρ' F' H' s' g1 => h ρ' F' H' s' (gr.trans g1)
  | rt e S => exact fun ρ' F' H' s' g1 => h ρ' F' H' s' (gr.trans g1)
  | bk e S => exact fun ρ' F' H' s' g1 => h ρ' F' H' s' (gr.trans g1)
  | ct e S => exact fun ρ' F' H' s' g1 => h ρ' F' H' s' (gr.trans g1)
  | ex c ws e S => exact fun ρ' F' H' s' d g1 => h ρ' F' H' s' d (gr.trans g1)
  | stuck => exact h
theorem PostS.out {α β : Type} {R : List Addr → Hp → β → α → Prop} {o : Out α} {env : Env} {f : α → Store → SO} (e : EnvR g ρ F σ env) (h : PostS g B bs ρ F N D (o.so env f)) :
    Post g B R bs ρ F N σ (fun v H1 => ∃ ρ' F' a S', Grow ρ F ρ' F' ∧ Sim g bs ρ' F' N S' H1 ∧ R ρ' F' v a ∧ PostS g B bs ρ' F' N D (f a S')) o := by
  cases o with
  | ok a S1 => exact fun ρ' F' H' v gr s' r => ⟨ρ', F', a, S1, gr, s', r, PostS.grow gr h⟩
  | ex c ws S1 => exact fun ρ' F' H' d gr s' r => h ρ' F' H' σ d gr s' (e.mono gr) r
  | stuck => exact h
variable {a b c e : Expr} {es : List Expr} {ma mb mc : M W} {ms : M (List W)} {pos : Pos} {st : Stmt} {rest : List Stmt}
/-- an expression alone -/
def sDrop (m : M W) : MS := fun bs env S => (m bs env S).so env fun _ S1 => .nx env S1
theorem rs_expr (h : PE X e (rd g B ma)) (hs : swapsWith e none pos.line X.env = pure false := by rfl) : PS X (.Expr e pos) (rdS g B (sDrop ma)) := (ps_expr h hs).imp fun D σ H ⟨bs, ρ, F, N, env, S, s, e, p⟩ => by
  refine ⟨bs, ρ, F, N, env, S, s, e, (PostS.out (R := RW g) e p).imp fun x H1 ⟨ρ1, F1, wx, S1, g1, s1, r1, p1⟩ => ?_⟩
  exact p1 ρ1 F1 H1 σ (Grow.refl _ _) s1 (e.mono g1)
def sRet (m : M W) : MS := fun bs env S => (m bs env S).so env fun w S1 => .rt w S1
theorem rs_ret (h : PE X e (rd g B ma)) : PS X (.Return (some e) pos) (rdS g B (sRet ma)) := (ps_ret h).imp fun D σ H ⟨bs, ρ, F, N, env, S, s, e, p⟩ => by
  refine ⟨bs, ρ, F, N, env, S, s, e, (PostS.out (R := RW g) e p).imp fun x H1 ⟨ρ1, F1, wx, S1, g1, s1, r1, p1⟩ => ?_⟩
  exact p1 ρ1 F1 H1 x (Grow.refl _ _) s1 r1
def sRetN : MS := fun _ _ S => .rt .non S
theorem rs_retN : PS X (.Return none pos) (rdS g B sRetN) := ps_retN.imp fun D σ H ⟨bs, ρ, F, N, env, S, s, e, p⟩ => p ρ F H .non (Grow.refl _ _) s (.dat .non)
def sNil : MS := fun _ env S => .nx env S
def SO.andThen (o : SO) (f : Env → Store → SO) : SO := match o with
  | .nx env S => f env S
  | o => o
def sSeq (m n : MS) : MS := fun bs env S => (m bs env S).andThen fun env1 S1 => n bs env1 S1
theorem rss_nil : PSs X [] (rdS g B sNil) := pss_nil.imp fun D σ H ⟨bs, ρ, F, N, env, S, s, e, p⟩ => p ρ F H σ (Grow.refl _ _) s e
theorem rss_cons {m n : MS} (h : PS X st (rdS g B m)) (k : PSs X rest (rdS g B n)) : PSs X (st :: rest) (rdS g B (sSeq m n)) := (pss_cons h k).imp fun D σ H ⟨bs, ρ, F, N, env, S, s, e, p⟩ => by
  refine ⟨bs, ρ, F, N, env, S, s, e, ?_⟩
  unfold sSeq at p
  cases hm : m bs env S with
  | nx e1 S1 => rw [hm] at p; exact fun ρ' F' H' σ' gr s' e' => ⟨bs, ρ', F', N, e1, S1, s', e', PostS.grow gr p⟩
  | rt w S1 => rw [hm] at p; exact p
  | bk e1 S1 => rw [hm] at p; exact p
  | ct e1 S1 => rw [hm] at p; exact p
  | ex c ws e1 S1 => rw [hm] at p; exact p
  | stuck => rw [hm] at p; exact p
theorem rss_one {m : MS} (h : PS X st (rdS g B m)) : PSs X [st] (rdS g B m) := pss_one h
def sBrk : MS := fun _ env S => .bk env S
def sCnt : MS := fun _ env S => .ct env S
theorem rs_break : PS X (.Break pos) (rdS g B sBrk) := ps_break.imp fun D σ H ⟨bs, ρ, F, N, env, S, s, e, p⟩ => p ρ F H σ (Grow.refl _ _) s e
theorem rs_continue : PS X (.Continue pos) (rdS g B sCnt) := ps_continue.imp fun D σ H ⟨bs, ρ, F, N, env, S, s, e, p⟩ => p ρ F H σ (Grow.refl _ _) s e
theorem rs_pass : PS X (.Pass pos) (rdS g B sNil) := ps_pass.imp fun D σ H ⟨bs, ρ, F, N, env, S, s, e, p⟩ => p ρ F H σ (Grow.refl _ _) s e
/-- what is never come to -/
def sNever : MS := fun _ _ _ => .stuck
theorem rs_never : PS X st (rdS g B sNever) := ps_never.imp fun D σ H ⟨bs, ρ, F, N, env, S, s, e, p⟩ => p
def sIf (t : M Bool) (m n : MS) : MS := fun bs env S => (t bs env S).so env fun b S1 => if b = true then m bs env S1 else n bs env S1
theorem rs_if {t : M Bool} {m n : MS} {p q : List Stmt} (ht : PT X c (rdT g B t)) (hm : PSs X p (rdS g B m)) (hn : PSs X q (rdS g B n)) : PS X (.If c p q pos) (rdS g B (sIf t m n)) := (ps_if ht hm hn).imp fun D σ H ⟨bs, ρ, F, N, env, S, s, e, p⟩ => by
  refine ⟨bs, ρ, F, N, env, S, s, e, (PostS.out (R := RB) e p).imp fun x H1 ⟨ρ1, F1, wx, S1, g1, s1, r1, p1⟩ => ?_⟩
  cases r1
  cases x with
  | true => exact ⟨bs, ρ1, F1, N, env, S1, s1, e.mono g1, p1⟩
  | false => exact ⟨bs, ρ1, F1, N, env, S1, s1, e.mono g1, p1⟩

/-! ### targets -/
abbrev TM := W → M Env
abbrev TMs := List W → M Env
def PostG (g : Gx) (B : WX) (bs : List Nat) (ρ : List Addr) (F N : Hp) (σ : L2.St) (Q : L2.St → Hp → Prop) : Out Env → Prop
  | .ok e S' => ∀ ρ' F' H' σ', Grow ρ F ρ' F' → Sim g bs ρ' F' N S' H' → EnvR g ρ' F' σ' e → Q σ' H'
  | .ex c ws S' => ∀ ρ' F' H' d, Grow ρ F ρ' F' → Sim g bs ρ' F' N S' H' → ExR g c ρ' F' H' d ws → B (.ref (g.cls c)) d σ H'
  | .stuck => False
theorem PostG.grow {o : Out Env} {Q : L2.St → Hp → Prop} (gr : Grow ρ F ρ1 F1) (h : PostG g B bs ρ F N σ Q o) : PostG g B bs ρ1 F1 N σ Q o := by
  cases o with
  | ok e S => exact fun ρ' F' H' s' g1 => h ρ' F' H' s' (gr.trans g1)
  | ex c ws S => exact fun ρ' F' H' d g1 => h ρ' F' H' d (gr.trans g1)
  | stuck => exact h
theorem PostG.imp {o : Out Env} {Q Q' : L2.St → Hp → Prop} (h : PostG g B bs ρ F N σ Q o) (i : ∀ σ H, Q σ H → Q' σ H) : PostG g B bs ρ F N σ Q' o := by
  cases o with
  | ok e S => exact fun ρ' F' H' s' g1 s r => i _ _ (h ρ' F' H' s' g1 s r)
  | ex c ws S => exact h
  | stuck => exact h
def rdTg (g : Gx) (B : WX) (t : TM) : TG := fun v σ H Q => ∃ bs ρ F N env S w, Sim g bs ρ F N S H ∧ EnvR g ρ F σ env ∧ Is g.K ρ F v w ∧ PostG g B bs ρ F N σ Q (t w bs env S)
def rdTgs (g : Gx) (B : WX) (t : TMs) : TGs := fun vs σ H Q => ∃ bs ρ F N env S ws, Sim g bs ρ F N S H ∧ EnvR g ρ F σ env ∧ IsAll g.K ρ F vs ws ∧ PostG g B bs ρ F N σ Q (t ws bs env S)
def tName (i : Nat) : TM := fun w _ env S => .ok (env.set i (some w)) S
theorem rg_name {i : Nat} {x : Str} (hN : X.N.Nodup) (hi : X.N[i]? = some x := by rfl) (hx : Loc X.env.scope x := by first | exact Or.inl rfl | exact Or.inr rfl) (hf : X.fn x = true ∨ X.env.scope.names.lookup x = some .local := by first | exact .inl rfl | exact .inr rfl | assumption) : PG X (.Name x pos) (rdTg g B (tName i)) :=
  (pg_name hN hi hx hf).imp fun v σ H Q ⟨bs, ρ, F, N, env, S, w, s, e, r, p⟩ => p ρ F H _ (Grow.refl _ _) s (e.set i r)
def tNil : TMs := fun ws _ env S => match ws with
  | [] => .ok env S
  | _ => .stuck
def tCons (t : TM) (u : TMs) : TMs := fun ws bs env S => match ws with
  | w :: r => (t w bs env S).bind fun env1 S1 => u r bs env1 S1
  | [] => .stuck
/-- targets that never raise -/
def Calm (t : TM) : Prop := ∀ w bs env S c ws S1, t w bs env S ≠ .ex c ws S1
theorem rgs_nil : PGs X [] (rdTgs g B tNil) := ⟨fun pins s σ H vs us Q I rv ⟨bs, ρ, F, N, env, S, ws, s1, e, r, p⟩ => by
  refine pgs_nil.run pins s σ H vs us Q I rv ?_
  cases ws with
  | nil => cases r; exact ⟨rfl, p ρ F H σ (Grow.refl _ _) s1 e⟩
  | cons w ws => exact p.elim⟩
theorem rgs_cons {t : TM} {u : TMs} (h1 : PG X e (rdTg g B t)) (h2 : PGs X es (rdTgs g B u)) (hu : ∀ ws bs env S c us S1, u ws bs env S ≠ .ex c us S1)
    (hs : (assignEach (e :: es) X.env).map (·.2) = assign e X.env :: (assignEach es X.env).map (·.2) := by rfl) : PGs X (e :: es) (rdTgs g B (tCons t u)) := ⟨fun pins s σ H vs us Q I rv ⟨bs, ρ, F, N, env, S, ws, s1, e, r, p⟩ => by
  refine (pgs_cons h1 h2 hs).run pins s σ H vs us Q I rv ?_
  cases ws with
  | nil => exact p.elim
  | cons w ws =>
    cases r with
    | @cons v vs' _ _ ra rb =>
      refine ⟨v, vs', rfl, bs, ρ, F, N, env, S, w, s1, e, ra, ?_⟩
      unfold tCons at p
      cases ht : t w bs env S with
      | ok e1 S1 =>
        simp only [ht, Out.bind_ok] at p
        intro ρ' F' H' σ' gr s' e'
        refine ⟨bs, ρ', F', N, e1, S1, ws, s', e', rb.mono gr, ?_⟩
        cases hq : u ws bs e1 S1 with
        | ok e2 S2 => rw [hq] at p; exact fun ρ2 F2 H2 σ2 g2 => p ρ2 F2 H2 σ2 (gr.trans g2)
        | ex c us S2 => exact absurd hq (hu _ _ _ _ _ _ _)
        | stuck => rw [hq] at p; exact p
      | ex c us S1 => simp only [ht, Out.bind_ex] at p; exact p
      | stuck => simp only [ht, Out.bind_stuck] at p; exact p⟩
/-- a tuple of targets -/
def tTup (n : Nat) (t : TMs) : TM := fun w bs env S => match tupOf w with
  | some ws => if ws.length = n then t ws bs env S else .stuck
  | none => .stuck
theorem rg_tup (hK : g.K = X.K) {k : Nat} {t : TMs} {n : Nat} (hc : X.calm = true) (h : PGs X es (rdTgs g B t)) (hn : (assignEach es X.env).length = n := by rfl) (hst : (assignEach es X.env).findIdx? (·.1) = none := by rfl) :
    PG X (.Tuple es k pos) (rdTg g B (tTup n t)) := (pg_tup hc h hn hst).imp fun v σ H Q ⟨bs, ρ, F, N, env, S, w, s, e, r, p⟩ => by
  unfold tTup at p
  split at p
  · rename_i ws hw
    split at p
    · rename_i hl
      obtain ⟨a, vs, rfl, q, l⟩ := tup_of r hw
      rw [hK] at q
      exact ⟨a, vs, rfl, Same.sqT s.ex q, by rw [l.len]; exact hl, bs, ρ, F, N, env, S, ws, s, e, l, p⟩
    · exact p.elim
  · exact p.elim
/-- target = value -/
def sAsg (m : M W) (t : TM) : MS := fun bs env S => (m bs env S).so env fun w S1 => (t w bs env S1).so env fun env1 S2 => .nx env1 S2
theorem post_asg {o : Out Env} {env : Env} (e : EnvR g ρ F σ env) (h : PostS g B bs ρ F N D (o.so env fun env1 S2 => .nx env1 S2)) : PostG g B bs ρ F N σ D.nx o := by
  cases o with
  | ok e1 S1 => exact h
  | ex c ws S1 => exact fun ρ' F' H' d gr s' r => h ρ' F' H' σ d gr s' (e.mono gr) r
  | stuck => exact h
theorem rd_asg {m : M W} {t : TM} (D : Ends) (σ : L2.St) (H : Hp) (h : rdS g B (sAsg m t) D σ H) : tAsg (rd g B m) (rdTg g B t) D σ H := by
  obtain ⟨bs, ρ, F, N, env, S, s, e, p⟩ := h
  refine ⟨bs, ρ, F, N, env, S, s, e, (PostS.out (R := RW g) e p).imp fun x H1 ⟨ρ1, F1, wx, S1, g1, s1, r1, p1⟩ => ?_⟩
  exact ⟨bs, ρ1, F1, N, env, S1, wx, s1, e.mono g1, r1, post_asg (e.mono g1) p1⟩
theorem rs_asg {tg : Expr} {t : TM} (he : PE X e (rd g B ma)) (hg : PG X tg (rdTg g B t)) (hs : swapsWithSole [tg] e pos.line X.env = pure false := by rfl) (hw : swappedStores [tg] e X.env = pure none := by rfl)
    (h1 : (assignEach [tg] X.env).map (·.2) = [assign tg X.env] := by rfl) : PS X (.Assign [tg] e pos) (rdS g B (sAsg ma t)) := (ps_asg he hg hs hw h1).imp rd_asg
theorem rs_set {i : Nat} {x : Str} {pos' : Pos} (hN : X.N.Nodup) (he : PE X e (rd g B ma)) (hi : X.N[i]? = some x := by rfl) (hx : Loc X.env.scope x := by first | exact Or.inl rfl | exact Or.inr rfl) (hs : swapsWith e (some (.Name x pos')) pos.line X.env = pure false := by rfl)
    (hf : X.fn x = true ∨ X.env.scope.names.lookup x = some .local := by first | exact .inl rfl | exact .inr rfl | assumption) : PS X (.Assign [.Name x pos'] e pos) (rdS g B (sAsg ma (tName i))) :=
  (ps_set hN hi hx he hs hf).imp fun D σ H h => rdG_imp (rd_asg D σ H h) fun v H1 ⟨bs, ρ, F, N, env, S, w, s, e, r, p⟩ => p ρ F H1 _ (Grow.refl _ _) s (e.set i r)
/-- a, b = x, y -/
def sPar (i j : Nat) (ms : M (List W)) : MS := fun bs env S => (ms bs env S).so env fun ws S1 => match ws with
  | [w, u] => .nx ((env.set i (some w)).set j (some u)) S1
  | _ => .stuck
theorem rs_par {i j : Nat} {x y : Str} {px py pt : Pos} {kt k2 pt2} (hc : X.calm = true) (hN : X.N.Nodup) (hi : X.N[i]? = some x) (hj : X.N[j]? = some y) (hij : i ≠ j)
    (hx : X.env.scope.names.lookup x = some .local) (hy : X.env.scope.names.lookup y = some .local) (ha : PA X [a, b] (rdA g B ms))
    (hw : swappedStores [.Tuple [.Name x px, .Name y py] kt pt] (.Tuple [a, b] k2 pt2) X.env = pure (some [x, y]))
    (hs : swapsWithSole [.Tuple [.Name x px, .Name y py] kt pt] (.Tuple [a, b] k2 pt2) pos.line X.env = pure false := by rfl) :
    PS X (.Assign [.Tuple [.Name x px, .Name y py] kt pt] (.Tuple [a, b] k2 pt2) pos) (rdS g B (sPar i j ms)) := (ps_par hc hN hi hj hij hx hy ha hw hs).imp fun D σ H ⟨bs, ρ, F, N, env, S, s, e, p⟩ => by
  refine ⟨bs, ρ, F, N, env, S, s, e, (PostS.out (R := RWs g) e p).imp fun x H1 ⟨ρ1, F1, wx, S1, g1, s1, r1, p1⟩ => ?_⟩
  split at p1
  · obtain ⟨v, u, rfl, r2, r3⟩ := all_two r1
    exact ⟨v, u, rfl, p1 ρ1 F1 H1 _ (Grow.refl _ _) s1 (((e.mono g1).set i r2).set j r3)⟩
  · exact p1.elim
def sPar3 (i j l : Nat) (ms : M (List W)) : MS := fun bs env S => (ms bs env S).so env fun ws S1 => match ws with
  | [w, u, z] => .nx (((env.set i (some w)).set j (some u)).set l (some z)) S1
  | _ => .stuck
/-- name op= e -/
def sAug (i : Nat) (f : Op2) (m : M W) : MS := fun bs env S => match env[i]? with
  | some (some x) => (m bs env S).so env fun y S1 => match f bs x y S1 with
    | some (z, S2) => .nx (env.set i (some z)) S2
    | none => .stuck
  | _ => .stuck
theorem rs_aug {i : Nat} {x : Str} {op : Operator} {f : Op2} {pos' : Pos} (hN : X.N.Nodup) (he : PE X e (rd g B ma)) (ho : OpR X (inplaceOp op) (rd2 g f)) (hi : X.N[i]? = some x := by rfl) (hx : Loc X.env.scope x := by first | exact Or.inl rfl | exact Or.inr rfl)
    (hf : X.fn x = true ∨ X.env.scope.names.lookup x = some .local := by first | exact .inl rfl | exact .inr rfl | assumption) : PS X (.AugAssign (.Name x pos') op e pos) (rdS g B (sAug i f ma)) :=
  (ps_aug (ti := rd2 g f) hN hi hx he ho hf).imp fun D σ H ⟨bs, ρ, F, N, env, S, s, e, p⟩ => by
    unfold sAug at p
    split at p
    · rename_i w hw
      obtain ⟨v, h1, h2⟩ := e.at_ i w hw
      refine ⟨v, h1, bs, ρ, F, N, env, S, s, e, (PostS.out (R := RW g) e p).imp fun y H1 ⟨ρ1, F1, wx, S1, g1, s1, r1, p1⟩ => ?_⟩
      refine ⟨bs, ρ1, F1, N, S1, w, wx, s1, h2.mono g1, r1, ?_⟩
      cases hz : f bs w wx S1 with
      | none => rw [hz] at p1; exact p1
      | some q => obtain ⟨z, S2⟩ := q; rw [hz] at p1; exact fun ρ2 F2 H2 u g2 s2 r2 => p1 ρ2 F2 H2 _ g2 s2 (((e.mono g1).mono g2).set i r2)
    · exact p.elim
end
end Rf

set_option maxHeartbeats 4000000
namespace Rf
open PySem L2

/-! ### what is walked -/
inductive Iter where
  | items (ws : List W)
  | cell (n : Nat)
  | zip (a b : Iter)
  | enm (a : Iter)
def Iter.fuel : Iter → Nat
  | .items ws => ws.length + 1
  | .cell _ => 100000
  | .zip a _ => a.fuel
  | .enm a => a.fuel
/-- the item of a turn: none: it stops; nothing at all: it cannot go on -/
def Iter.next (it : Iter) (i : Nat) (S : Store) : Option (Option W) := match it with
  | .items ws => some ws[i]?
  | .cell n => match S[n]? with
    | some (.lst ws) => some ws[i]?
    | _ => none
  | .zip a b => match a.next i S, b.next i S with
    | some (some x), some (some y) => some (some (mkTup [x, y]))
    | some none, some _ => some none
    | some _, some none => some none
    | _, _ => none
  | .enm a => match a.next i S with
    | some (some x) => some (some (mkTup [.int i, x]))
    | some none => some none
    | none => none
def WalkOk (g : Gx) (J : It) (ρ : List Addr) (F : Hp) (it : Iter) : Prop := ∀ bs ρ' F' N' S' H' i, Grow ρ F ρ' F' → Sim g bs ρ' F' N' S' H' → match it.next i S' with
  | some (some w) => J.go i H' ∧ ∀ x H2, J.yld i H' x H2 → ∃ F2, Grow ρ' F' ρ' F2 ∧ Sim g bs ρ' F2 N' S' H2 ∧ Is g.K ρ' F2 x w
  | some none => J.stop i H'
  | none => True
def PostI (g : Gx) (B : WX) (bs : List Nat) (ρ : List Addr) (F N : Hp) (σ : L2.St) (R : It → Hp → Prop) : Out Iter → Prop
  | .ok it S' => ∀ ρ' F' H' J, Grow ρ F ρ' F' → Sim g bs ρ' F' N S' H' → WalkOk g J ρ' F' it → R J H'
  | .ex c ws S' => ∀ ρ' F' H' d, Grow ρ F ρ' F' → Sim g bs ρ' F' N S' H' → ExR g c ρ' F' H' d ws → B (.ref (g.cls c)) d σ H'
  | .stuck => False
def rdI (g : Gx) (B : WX) (m : M Iter) : TI := fun σ H R => ∃ bs ρ F N env S, Sim g bs ρ F N S H ∧ EnvR g ρ F σ env ∧ PostI g B bs ρ F N σ R (m bs env S)
section
variable {X : Cx} {g : Gx} {B : WX} {bs : List Nat} {ρ ρ1 : List Addr} {F F1 N : Hp} {D : Ends} {σ : L2.St}
theorem Post.iter {α β : Type} {R : List Addr → Hp → β → α → Prop} {Rr : It → Hp → Prop} {o : Out α} {f : α → Store → Out Iter} (h : PostI g B bs ρ F N σ Rr (o.bind f)) :
    Post g B R bs ρ F N σ (fun v H1 => ∃ ρ' F' a S', Grow ρ F ρ' F' ∧ Sim g bs ρ' F' N S' H1 ∧ R ρ' F' v a ∧ PostI g B bs ρ' F' N σ Rr (f a S')) o := by
  cases o with
  | ok a S1 =>
    refine fun ρ' F' H' v gr s' r => ⟨ρ', F', a, S1, gr, s', r, ?_⟩
    simp only [Out.bind_ok] at h
    cases hf : f a S1 with
    | ok it S2 => rw [hf] at h; exact fun ρ2 F2 H2 J g2 => h ρ2 F2 H2 J (gr.trans g2)
    | ex c ws S2 => rw [hf] at h; exact fun ρ2 F2 H2 d g2 => h ρ2 F2 H2 d (gr.trans g2)
    | stuck => rw [hf] at h; exact h
  | ex c ws S1 => exact h
  | stuck => exact h
variable {a b c e tg : Expr} {es : List Expr} {ma mb mc : M W} {ms : M (List W)} {pos : Pos} {st : Stmt} {rest : List Stmt}
/-- a sequence's items: a tuple or frozen list as it is; a cell by its place -/
def iterT (w : W) : Option Iter := (tupOf w).map .items
def iterL (S : Store) (w : W) : Option Iter := match w with
  | .dat (.list ds) => some (.items (ds.map .dat))
  | .lw ws => some (.items ws)
  | .loc n => match S[n]? with
    | some (.lst _) => some (.cell n)
    | _ => none
  | _ => none
theorem walk_tup {a : Addr} {vs : List V} {ws : List W} (q : SqT g.K F a vs) (l : IsAll g.K ρ F vs ws) : WalkOk g (Itt g.K a) ρ F (.items ws) := by
  intro bs ρ' F' N' S' H' i gr s
  have q' : SqT g.K H' a vs := Same.sqT s.ex (Same.sqT gr.ex q)
  show match (some ws[i]? : Option (Option W)) with
    | some (some w) => _
    | some none => _
    | none => True
  cases hw : ws[i]? with
  | some w =>
    obtain ⟨v, hv, r⟩ := l.get hw
    refine ⟨⟨vs, v, q', hv⟩, fun x H2 ⟨e, h⟩ => ?_⟩
    subst e
    have := h vs q'
    rw [hv] at this; cases this
    exact ⟨F', Grow.refl _ _, s, r.mono gr⟩
  | none => exact ⟨vs, q', by rw [l.len]; exact List.getElem?_eq_none_iff.mp hw⟩
theorem walk_lst {a : Addr} {vs : List V} {ws : List W} (q : SqL g.K F a vs) (l : IsAll g.K ρ F vs ws) : WalkOk g (Itl g.K a) ρ F (.items ws) := by
  intro bs ρ' F' N' S' H' i gr s
  have q' : SqL g.K H' a vs := s.ex.seq (gr.ex.seq q)
  show match (some ws[i]? : Option (Option W)) with
    | some (some w) => _
    | some none => _
    | none => True
  cases hw : ws[i]? with
  | some w =>
    obtain ⟨v, hv, r⟩ := l.get hw
    refine ⟨⟨vs, v, q', hv⟩, fun x H2 ⟨e, h⟩ => ?_⟩
    subst e
    have := h vs q'
    rw [hv] at this; cases this
    exact ⟨F', Grow.refl _ _, s, r.mono gr⟩
  | none => exact ⟨vs, q', by rw [l.len]; exact List.getElem?_eq_none_iff.mp hw⟩
theorem walk_cell {a : Addr} {n : Nat} (hn : ρ[n]? = some a) : WalkOk g (Itl g.K a) ρ F (.cell n) := by
  intro bs ρ' F' N' S' H' i gr s
  have hn' := gr.at hn
  show match (match S'[n]? with
    | some (.lst ws) => some ws[i]?
    | _ => none : Option (Option W)) with
    | some (some w) => _
    | some none => _
    | none => True
  cases hc : S'[n]? with
  | none => trivial
  | some c =>
    cases c with
    | lst ws =>
      obtain ⟨vs, e, l⟩ := s.cell n _ _ hc hn'
      have q' : SqL g.K H' a vs := SqL.of e
      cases hw : ws[i]? with
      | some w =>
        obtain ⟨v, hv, r⟩ := l.get hw
        simp only [hw]
        refine ⟨⟨vs, v, q', hv⟩, fun x H2 ⟨e2, h⟩ => ?_⟩
        subst e2
        have := h vs q'
        rw [hv] at this; cases this
        exact ⟨F', Grow.refl _ _, s, r⟩
      | none => simp only [hw]; exact ⟨vs, q', by rw [l.len]; exact List.getElem?_eq_none_iff.mp hw⟩
    | dic _ => trivial
    | ins _ _ => trivial
def mItT (m : M W) : M Iter := fun bs env S => (m bs env S).bind fun w S1 => match iterT w with
  | some it => .ok it S1
  | none => .stuck
def mItL (m : M W) : M Iter := fun bs env S => (m bs env S).bind fun w S1 => match iterL S1 w with
  | some it => .ok it S1
  | none => .stuck
theorem ri_tup (hK : g.K = X.K) (h : PE X a (rd g B ma)) : PI X tg a (rdI g B (mItT ma)) := (pi_tup h).imp fun σ H R ⟨bs, ρ, F, N, env, S, s, e, p⟩ => by
  refine ⟨bs, ρ, F, N, env, S, s, e, (Post.iter (R := RW g) p).imp fun x H1 ⟨ρ1, F1, wx, S1, g1, s1, r1, p1⟩ => ?_⟩
  unfold iterT at p1
  cases hw : tupOf wx with
  | none => rw [hw] at p1; exact p1.elim
  | some ws =>
    rw [hw] at p1
    obtain ⟨a, vs, rfl, q, l⟩ := tup_of r1 hw
    rw [← hK]
    exact ⟨a, rfl, ⟨vs, Same.sqT s1.ex q⟩, p1 ρ1 F1 H1 _ (Grow.refl _ _) s1 (walk_tup q l)⟩
theorem ri_lst (hK : g.K = X.K) (h : PE X a (rd g B ma)) : PI X tg a (rdI g B (mItL ma)) := (pi_list h).imp fun σ H R ⟨bs, ρ, F, N, env, S, s, e, p⟩ => by
  refine ⟨bs, ρ, F, N, env, S, s, e, (Post.iter (R := RW g) p).imp fun x H1 ⟨ρ1, F1, wx, S1, g1, s1, r1, p1⟩ => ?_⟩
  rw [← hK]
  unfold iterL at p1
  cases wx with
  | dat d =>
    cases d <;> try exact p1.elim
    cases r1 with
    | dat r => cases r with
      | lst q r => exact ⟨_, rfl, ⟨_, SqL.of (s1.ex _ _ q)⟩, p1 ρ1 F1 H1 _ (Grow.refl _ _) s1 (walk_lst (SqL.of q) r.isAll)⟩
  | lw ws => cases r1 with
    | lw q r => exact ⟨_, rfl, ⟨_, s1.ex.seq q⟩, p1 ρ1 F1 H1 _ (Grow.refl _ _) s1 (walk_lst q r)⟩
  | tw ws => exact p1.elim
  | kt ws => exact p1.elim
  | loc n =>
    cases hc : S1[n]? with
    | none => simp only [hc] at p1; exact p1.elim
    | some c =>
      cases c with
      | lst ws =>
        simp only [hc] at p1
        cases r1 with
        | loc hn =>
          obtain ⟨vs, e, l⟩ := s1.cell n _ _ hc hn
          exact ⟨_, rfl, ⟨vs, SqL.of e⟩, p1 ρ1 F1 H1 _ (Grow.refl _ _) s1 (walk_cell hn)⟩
      | dic _ => simp only [hc] at p1; exact p1.elim
      | ins _ _ => simp only [hc] at p1; exact p1.elim
/-- range -/
def rangeW (lo hi : Int) : List W := (List.range (hi - lo).toNat).map fun (i : Nat) => W.int (lo + (i : Int))
theorem walk_range {lo : Int} {n : Nat} : WalkOk g (Itr lo n) ρ F (.items ((List.range n).map fun (i : Nat) => W.int (lo + (i : Int)))) := by
  intro bs ρ' F' N' S' H' i gr s
  show match (some ((List.range n).map fun (i : Nat) => W.int (lo + (i : Int)))[i]? : Option (Option W)) with
    | some (some w) => _
    | some none => _
    | none => True
  rw [List.getElem?_map]
  by_cases h : i < n
  · rw [List.getElem?_range h]
    refine ⟨h, fun x H2 ⟨e, q⟩ => ?_⟩
    subst e q
    exact ⟨F', Grow.refl _ _, s, .dat (.int _)⟩
  · rw [List.getElem?_eq_none (by simpa using h)]
    show n ≤ i
    omega
def mRng1 (ms : M (List W)) : M Iter := fun bs env S => (ms bs env S).bind fun ws S1 => match ws with
  | [.dat (.int n)] => if n < 4611686018427387904 ∧ -4611686018427387904 ≤ n then .ok (.items (rangeW 0 n)) S1 else .stuck
  | _ => .stuck
def mRng2 (ms : M (List W)) : M Iter := fun bs env S => (ms bs env S).bind fun ws S1 => match ws with
  | [.dat (.int i), .dat (.int n)] => if (n < 4611686018427387904 ∧ -4611686018427387904 ≤ n) ∧ (i < 4611686018427387904 ∧ -4611686018427387904 ≤ i) then .ok (.items (rangeW i n)) S1 else .stuck
  | _ => .stuck
theorem ri_range1 {p : Pos} (hg : Gl X "range") (hm : X.mg "range" = none) (ha : PA X [a] (rdA g B ms)) (hs : starEach [a] X.env = [(false, eval a X.env)] := by rfl) : PI X tg (.Call (.Name "range" p) [a] [] pos) (rdI g B (mRng1 ms)) :=
  (pi_range1 hg hm ha hs).imp fun σ H R ⟨bs, ρ, F, N, env, S, s, e, p⟩ => by
    refine ⟨bs, ρ, F, N, env, S, s, e, (Post.iter (R := RWs g) p).imp fun x H1 ⟨ρ1, F1, wx, S1, g1, s1, r1, p1⟩ => ?_⟩
    split at p1
    · split at p1
      · rename_i n hl
        obtain ⟨v, rfl, r2⟩ := all_one r1
        rw [is_int r2]
        refine ⟨n, rfl, by omega, by omega, p1 ρ1 F1 H1 _ (Grow.refl _ _) s1 ?_⟩
        have e : (n - 0).toNat = n.toNat := by simp
        unfold rangeW; rw [e]; exact walk_range
      · exact p1.elim
    · exact p1.elim
theorem ri_range2 {p : Pos} (hg : Gl X "range") (hm : X.mg "range" = none) (ha : PA X [a, b] (rdA g B ms)) (hs : starEach [a, b] X.env = [(false, eval a X.env), (false, eval b X.env)] := by rfl) (hs2 : starEach [b] X.env = [(false, eval b X.env)] := by rfl) :
    PI X tg (.Call (.Name "range" p) [a, b] [] pos) (rdI g B (mRng2 ms)) :=
  (pi_range2 hg hm ha hs hs2).imp fun σ H R ⟨bs, ρ, F, N, env, S, s, e, p⟩ => by
    refine ⟨bs, ρ, F, N, env, S, s, e, (Post.iter (R := RWs g) p).imp fun x H1 ⟨ρ1, F1, wx, S1, g1, s1, r1, p1⟩ => ?_⟩
    split at p1
    · split at p1
      · rename_i i n hl
        obtain ⟨v, u, rfl, r2, r3⟩ := all_two r1
        rw [is_int r2, is_int r3]
        exact ⟨i, n, rfl, ⟨by omega, by omega, by omega, by omega⟩, p1 ρ1 F1 H1 _ (Grow.refl _ _) s1 walk_range⟩
      · exact p1.elim
    · exact p1.elim

/-! ### for -/
/-- a body's end at a turn -/
def SO.turn (o : SO) (f : Env → Store → SO) : SO := match o with
  | .nx env S => f env S
  | .ct env S => f env S
  | .bk env S => .nx env S
  | o => o
def forG (it : Iter) (bd : W → MS) : Nat → Nat → MS
  | 0, _ => fun _ _ _ => .stuck
  | f + 1, i => fun bs env S => match it.next i S with
    | none => .stuck
    | some none => .nx env S
    | some (some w) => (bd w bs env S).turn fun e S1 => forG it bd f (i + 1) bs e S1
def tBody (t : TM) (m : MS) : W → MS := fun w bs env S => (t w bs env S).so env fun e S1 => m bs e S1
def sFor (mi : M Iter) (t : TM) (m : MS) : MS := fun bs env S => (mi bs env S).so env fun it S1 => forG it (tBody t m) it.fuel 0 bs env S1
theorem rs_for {mi : M Iter} {t : TM} {m : MS} {iter : Expr} {body : List Stmt} (hp : PassesOwn (model X.prog X.w) X.A X.env X.xe) (hc : X.calm = true) (hi : PI X tg iter (rdI g B mi)) (hg : PG X tg (rdTg g B t)) (hb : PSs X body (rdS g B m))
    (hs : ∀ x, foldedSetIterable iter X.env x = pure x := by intro _; rfl) : PS X (.For tg iter body [] pos) (rdS g B (sFor mi t m)) := (ps_for hp hc hi hg hb hs).imp fun D σ H ⟨bs, ρ, F, N, env, S, s, e, p⟩ => by
  refine ⟨bs, ρ, F, N, env, S, s, e, ?_⟩
  unfold sFor at p
  cases hm : mi bs env S with
  | stuck => rw [hm] at p; exact p
  | ex c ws S1 => rw [hm] at p; exact fun ρ' F' H' d gr s' r => p ρ' F' H' σ d gr s' (e.mono gr) r
  | ok it S1 =>
    rw [hm] at p
    intro ρ1 F1 H1 J g1 s1 wk
    have p1 : PostS g B bs ρ1 F1 N D (forG it (tBody t m) it.fuel 0 bs env S1) := PostS.grow g1 p
    refine ⟨fun i m' σ' H' => ∃ ρ' F' env' S', Grow ρ1 F1 ρ' F' ∧ Sim g bs ρ' F' N S' H' ∧ EnvR g ρ' F' σ' env' ∧ PostS g B bs ρ' F' N D (forG it (tBody t m) m' i bs env' S'), ⟨it.fuel, ρ1, F1, env, S1, Grow.refl _ _, s1, e.mono g1, p1⟩, ?_⟩
    rintro i m' σ' H' ⟨ρ', F', env', S', g', s', e', p'⟩
    cases m' with
    | zero => exact p'.elim
    | succ f =>
      unfold forG at p'
      have w := wk bs ρ' F' N S' H' i g' s'
      cases hx : it.next i S' with
      | none => rw [hx] at p'; exact p'.elim
      | some o =>
        cases o with
        | none => rw [hx] at p' w; exact .inl ⟨w, p' ρ' F' H' σ' (Grow.refl _ _) s' e'⟩
        | some x =>
          rw [hx] at p' w
          refine .inr ⟨w.1, fun σ2 H2 => ∃ ρ2 F2 env2 S2, Grow ρ' F' ρ2 F2 ∧ Sim g bs ρ2 F2 N S2 H2 ∧ EnvR g ρ2 F2 σ2 env2 ∧ PostS g B bs ρ2 F2 N D (forG it (tBody t m) f (i + 1) bs env2 S2), fun σ2 H2 ⟨ρ2, F2, env2, S2, g2, s2, e2, p2⟩ => ⟨f, Nat.lt_succ_self f, ρ2, F2, env2, S2, g'.trans g2, s2, e2, p2⟩, fun v H2 y => ?_⟩
          obtain ⟨F2, g2, s2, r2⟩ := w.2 v H2 y
          refine ⟨bs, ρ', F2, N, env', S', x, s2, e'.mono g2, r2, ?_⟩
          have p2 := PostS.grow g2 p'
          unfold tBody at p2
          cases ht : t x bs env' S' with
          | stuck => simp only [ht, Out.so, SO.turn] at p2; exact p2
          | ex c ws S3 => simp only [ht, Out.so, SO.turn] at p2; exact fun ρ3 F3 H3 d g3 s3 r3 => p2 ρ3 F3 H3 σ' d g3 s3 ((e'.mono g2).mono g3) r3
          | ok env3 S3 =>
            simp only [ht, Out.so] at p2
            intro ρ3 F3 H3 σ3 g3 s3 e3
            refine ⟨bs, ρ3, F3, N, env3, S3, s3, e3, ?_⟩
            have p3 := PostS.grow g3 p2
            cases ho : m bs env3 S3 with
            | nx e4 S4 => simp only [ho, SO.turn] at p3; exact fun ρ4 F4 H4 σ4 g4 s4 e4' => ⟨ρ4, F4, e4, S4, g2.trans (g3.trans g4), s4, e4', PostS.grow g4 p3⟩
            | ct e4 S4 => simp only [ho, SO.turn] at p3; exact fun ρ4 F4 H4 σ4 g4 s4 e4' => ⟨ρ4, F4, e4, S4, g2.trans (g3.trans g4), s4, e4', PostS.grow g4 p3⟩
            | bk e4 S4 => simp only [ho, SO.turn] at p3; exact p3
            | rt w4 S4 => simp only [ho, SO.turn] at p3; exact p3
            | ex c ws e4 S4 => simp only [ho, SO.turn] at p3; exact p3
            | stuck => simp only [ho, SO.turn] at p3; exact p3
end
end Rf

set_option maxHeartbeats 4000000
namespace Rf
open PySem L2

/-! ### what is hidden while it is made -/
section
variable {g : Gx} {bs : List Nat} {ρ : List Addr} {F N H : Hp} {S : Store} {D : Addr} {o : HO}
theorem Sim.freeN (s : Sim g bs ρ F N S H) (h : H D = none) : F D = none ∧ N D = none ∧ D ∉ ρ :=
  ⟨s.ex.free h, s.hid.free h, fun z => by obtain ⟨o, e⟩ := s.has z; rw [h] at e; cases e⟩
theorem Sim.hide (s : Sim g bs ρ F N S H) (h : H D = none) (hl : ∃ vs, o = .lst vs := by exact ⟨_, rfl⟩) : Sim g bs ρ F (upd N D o) S (upd H D o) := by
  obtain ⟨h1, h2, h3⟩ := s.freeN h
  refine ⟨s.len, s.nd, fun a u e => ?_, s.fr, fun n c a e1 e2 => ?_, fun a u e => ?_, fun a u e => ?_, (fun a u e => by
    by_cases z : a = D
    · subst z; rw [upd_same] at e; cases e; exact hl
    · rw [upd_ne z] at e; exact s.nl a u e), s.bot⟩
  · rw [upd_ne (ne_of_none e h1)]; exact s.ex a u e
  · exact (s.cell n c a e1 e2).mono (Grow.refl _ _) (by rw [upd_ne (ne_mem (List.mem_of_getElem? e2) h3)])
  · by_cases z : a = D
    · subst z; rw [upd_same] at e ⊢; exact e
    · rw [upd_ne z] at e ⊢; exact s.hid a u e
  · by_cases z : a = D
    · subst z; exact ⟨h1, h3⟩
    · rw [upd_ne z] at e; exact s.nf a u e
theorem Sim.rehide {o' : HO} (s : Sim g bs ρ F (upd N D o) S H) (hl : ∃ vs, o' = .lst vs := by exact ⟨_, rfl⟩) : Sim g bs ρ F (upd N D o') S (upd H D o') := by
  obtain ⟨h1, h3⟩ := s.nf D o upd_same
  refine ⟨s.len, s.nd, fun a u e => ?_, s.fr, fun n c a e1 e2 => ?_, fun a u e => ?_, fun a u e => ?_, (fun a u e => by
    by_cases z : a = D
    · subst z; rw [upd_same] at e; cases e; exact hl
    · rw [upd_ne z] at e; exact s.nl a u (by rw [upd_ne z]; exact e)), s.bot⟩
  · rw [upd_ne (ne_of_none e h1)]; exact s.ex a u e
  · exact (s.cell n c a e1 e2).mono (Grow.refl _ _) (by rw [upd_ne (ne_mem (List.mem_of_getElem? e2) h3)])
  · by_cases z : a = D
    · subst z; rw [upd_same] at e ⊢; exact e
    · rw [upd_ne z] at e ⊢; exact s.hid a u (by rw [upd_ne z]; exact e)
  · by_cases z : a = D
    · subst z; exact ⟨h1, h3⟩
    · exact s.nf a u (by rw [upd_ne z] at e ⊢; exact e)
theorem Sim.showF (s : Sim g bs ρ F (upd N D o) S H) (hn : N D = none) : Sim g bs ρ (upd F D o) N S H ∧ Grow ρ F ρ (upd F D o) := by
  obtain ⟨h1, h3⟩ := s.nf D o upd_same
  have gr : Grow ρ F ρ (upd F D o) := ⟨⟨[], by simp⟩, same_new h1⟩
  refine ⟨⟨s.len, s.nd, fun a u e => ?_, fun a ha => ?_, fun n c a e1 e2 => (s.cell n c a e1 e2).mono gr rfl, fun a u e => ?_, fun a u e => ?_, (fun a u e => s.nl a u (by rw [upd_ne (ne_of_none e hn)]; exact e)), s.bot⟩, gr⟩
  · by_cases z : a = D
    · subst z; rw [upd_same] at e; rw [← e]; exact s.hid a o upd_same
    · rw [upd_ne z] at e; exact s.ex a u e
  · rw [upd_ne (ne_mem ha h3)]; exact s.fr a ha
  · exact s.hid a u (by rw [upd_ne (ne_of_none e hn)]; exact e)
  · have z := ne_of_none e hn
    rw [upd_ne z]; exact s.nf a u (by rw [upd_ne z]; exact e)
theorem Sim.showC {c : Cell} (s : Sim g bs ρ F (upd N D o) S H) (hn : N D = none) (hc : CellOk g (ρ ++ [D]) F H D c) : Sim g bs (ρ ++ [D]) F N (S ++ [c]) H ∧ Grow ρ F (ρ ++ [D]) F := by
  obtain ⟨h1, h3⟩ := s.nf D o upd_same
  have gr : Grow ρ F (ρ ++ [D]) F := ⟨⟨[D], rfl⟩, Same.refl F⟩
  refine ⟨⟨by simp [s.len], ?_, s.ex, fun a ha => ?_, fun n c' a e1 e2 => ?_, fun a u e => ?_, fun a u e => ?_, (fun a u e => s.nl a u (by rw [upd_ne (ne_of_none e hn)]; exact e)), fun b hb => ?_⟩, gr⟩
  · rw [List.nodup_append]; exact ⟨s.nd, by simp, fun a ha b hb z => by simp at hb; subst hb; subst z; exact h3 ha⟩
  · rcases List.mem_append.mp ha with ha | ha
    · exact s.fr a ha
    · simp at ha; subst ha; exact h1
  · by_cases hl : n < S.length
    · rw [List.getElem?_append_left hl] at e1
      rw [List.getElem?_append_left (by rw [s.len]; exact hl)] at e2
      exact (s.cell n c' a e1 e2).mono gr rfl
    · have hl2 := (List.getElem?_eq_some_iff.mp e1).1
      have e : n = S.length := by simp at hl2; omega
      subst e
      simp at e1
      rw [← s.len] at e2; simp at e2
      subst e1; subst e2
      exact hc
  · exact s.hid a u (by rw [upd_ne (ne_of_none e hn)]; exact e)
  · have z := ne_of_none e hn
    have w := s.nf a u (by rw [upd_ne z]; exact e)
    refine ⟨w.1, fun ha => ?_⟩
    rcases List.mem_append.mp ha with ha | ha
    · exact w.2 ha
    · simp at ha; exact z ha
  · obtain ⟨b1, b2⟩ := s.bot b hb
    refine ⟨by simp; omega, fun k c' hk e => b2 k c' hk ?_⟩
    rw [List.getElem?_append_left (by omega)] at e
    exact e
/-- a list that was hidden comes to light -/
theorem show_ok {k : Bool} {vs : List V} {ws : List W} {Q : VK} (s : Sim g bs ρ F (upd N D (.lst vs)) S H) (hn : N D = none) (r : IsAll g.K ρ F vs ws)
    (h : ∀ ρ' F' H' v, Grow ρ F ρ' F' → Sim g bs ρ' F' N (newL k ws S).2 H' → Is g.K ρ' F' v (newL k ws S).1 → Q v H') : Q (.ref D) H := by
  cases k with
  | true =>
    obtain ⟨s', gr⟩ := s.showC (c := .lst ws) hn ⟨vs, s.hid D _ upd_same, r.mono ⟨⟨[D], rfl⟩, Same.refl F⟩⟩
    refine h _ _ _ _ gr s' (.loc ?_)
    show (ρ ++ [D])[S.length]? = some D
    rw [← s.len]; simp
  | false =>
    obtain ⟨s', gr⟩ := s.showF hn
    exact h _ _ _ _ gr s' (is_mkLst upd_same (r.mono gr))
end

/-! ### targets of comprehensions -/
def wipeE (env : Env) : List Nat → Env
  | [] => env
  | v :: vs => (wipeE env vs).set v none
theorem EnvR.clr {g : Gx} {ρ : List Addr} {F : Hp} {σ : L2.St} {env : Env} (e : EnvR g ρ F σ env) (i : Nat) : EnvR g ρ F (σ.set i none) (env.set i none) := by
  refine ⟨by simp [e.len], fun j x hj => ?_⟩
  by_cases z : i = j
  · subst z
    have hl := (List.getElem?_eq_some_iff.mp hj).1
    simp only [List.length_set] at hl
    rw [List.getElem?_set_self hl] at hj
    cases hj
  · rw [List.getElem?_set_ne z] at hj ⊢
    exact e.at_ j x hj
theorem EnvR.wipe {g : Gx} {ρ : List Addr} {F : Hp} {σ : L2.St} {env : Env} (e : EnvR g ρ F σ env) : ∀ vs : List Nat, EnvR g ρ F (wipe σ vs) (wipeE env vs)
  | [] => e
  | v :: vs => (EnvR.wipe e vs).clr v
theorem set_wipe {σ : L2.St} {i : Nat} {x : Option V} : ∀ {vs : List Nat}, i ∈ vs → wipe (σ.set i x) vs = wipe σ vs
  | v :: vs, h => by
    unfold wipe
    by_cases z : i ∈ vs
    · rw [set_wipe z]
    · have hv : i = v := by
        rcases List.mem_cons.mp h with h | h
        · exact h
        · exact absurd h z
      subst hv
      have : wipe (σ.set i x) vs = (wipe σ vs).set i x := by
        clear h
        induction vs with
        | nil => rfl
        | cons u us ih =>
          unfold wipe
          rw [ih (fun h => z (List.mem_cons_of_mem _ h)), List.set_comm]
          exact fun h => z (by rw [h]; exact List.mem_cons_self ..)
      rw [this, List.set_set]
def rdTc (g : Gx) (B : WX) (vs : List Nat) (t : TM) : TG := fun v σ H Q => ∃ bs ρ F N env S w, Sim g bs ρ F N S H ∧ EnvR g ρ F σ env ∧ Is g.K ρ F v w ∧ PostG g B bs ρ F N σ (fun σ' H' => wipe σ' vs = wipe σ vs → Q σ' H') (t w bs env S)
def rdTcs (g : Gx) (B : WX) (vs : List Nat) (t : TMs) : TGs := fun us σ H Q => ∃ bs ρ F N env S ws, Sim g bs ρ F N S H ∧ EnvR g ρ F σ env ∧ IsAll g.K ρ F us ws ∧ PostG g B bs ρ F N σ (fun σ' H' => wipe σ' vs = wipe σ vs → Q σ' H') (t ws bs env S)
section
variable {X : Cx} {g : Gx} {B : WX} {bs : List Nat} {ρ ρ1 : List Addr} {F F1 N : Hp} {σ : L2.St} {vs : List Nat} {e : Expr} {es : List Expr} {pos : Pos}
theorem rc_name {i : Nat} {x : Str} (hN : X.N.Nodup) (hv : i ∈ vs := by decide) (hi : X.N[i]? = some x := by rfl) (hx : Loc X.env.scope x := by first | exact Or.inl rfl | exact Or.inr rfl) (hf : X.fn x = true ∨ X.env.scope.names.lookup x = some .local := by first | exact .inl rfl | exact .inr rfl | assumption) : PG X (.Name x pos) (rdTc g B vs (tName i)) :=
  (pg_name hN hi hx hf).imp fun v σ H Q ⟨bs, ρ, F, N, env, S, w, s, e, r, p⟩ => p ρ F H _ (Grow.refl _ _) s (e.set i r) (set_wipe hv)
theorem rcs_nil : PGs X [] (rdTcs g B vs tNil) := ⟨fun pins s σ H us zs Q I rv ⟨bs, ρ, F, N, env, S, ws, s1, e, r, p⟩ => by
  refine pgs_nil.run pins s σ H us zs Q I rv ?_
  cases ws with
  | nil => cases r; exact ⟨rfl, p ρ F H σ (Grow.refl _ _) s1 e rfl⟩
  | cons w ws => exact p.elim⟩
theorem rcs_cons {t : TM} {u : TMs} (h1 : PG X e (rdTc g B vs t)) (h2 : PGs X es (rdTcs g B vs u)) (hu : ∀ ws bs env S c us S1, u ws bs env S ≠ .ex c us S1)
    (hs : (assignEach (e :: es) X.env).map (·.2) = assign e X.env :: (assignEach es X.env).map (·.2) := by rfl) : PGs X (e :: es) (rdTcs g B vs (tCons t u)) := ⟨fun pins s σ H us zs Q I rv ⟨bs, ρ, F, N, env, S, ws, s1, e, r, p⟩ => by
  refine (pgs_cons h1 h2 hs).run pins s σ H us zs Q I rv ?_
  cases ws with
  | nil => exact p.elim
  | cons w ws =>
    cases r with
    | @cons v vs' _ _ ra rb =>
      refine ⟨v, vs', rfl, bs, ρ, F, N, env, S, w, s1, e, ra, ?_⟩
      unfold tCons at p
      cases ht : t w bs env S with
      | ok e1 S1 =>
        simp only [ht, Out.bind_ok] at p
        intro ρ' F' H' σ' gr s' e' w1
        refine ⟨bs, ρ', F', N, e1, S1, ws, s', e', rb.mono gr, ?_⟩
        cases hq : u ws bs e1 S1 with
        | ok e2 S2 => rw [hq] at p; exact fun ρ2 F2 H2 σ2 g2 s2 e2' w2 => p ρ2 F2 H2 σ2 (gr.trans g2) s2 e2' (w2.trans w1)
        | ex c us S2 => exact absurd hq (hu _ _ _ _ _ _ _)
        | stuck => rw [hq] at p; exact p
      | ex c us S1 => simp only [ht, Out.bind_ex] at p; exact p
      | stuck => simp only [ht, Out.bind_stuck] at p; exact p⟩
theorem rc_tup (hK : g.K = X.K) {k : Nat} {t : TMs} {n : Nat} (hc : X.calm = true) (h : PGs X es (rdTcs g B vs t)) (hn : (assignEach es X.env).length = n := by rfl) (hst : (assignEach es X.env).findIdx? (·.1) = none := by rfl) :
    PG X (.Tuple es k pos) (rdTc g B vs (tTup n t)) := (pg_tup hc h hn hst).imp fun v σ H Q ⟨bs, ρ, F, N, env, S, w, s, e, r, p⟩ => by
  unfold tTup at p
  split at p
  · rename_i ws hw
    split at p
    · rename_i hl
      obtain ⟨a, vs, rfl, q, l⟩ := tup_of r hw
      rw [hK] at q
      exact ⟨a, vs, rfl, Same.sqT s.ex q, by rw [l.len]; exact hl, bs, ρ, F, N, env, S, ws, s, e, l, p⟩
    · exact p.elim
  · exact p.elim

/-! ### comprehensions -/
def NoB : WX := fun _ _ _ _ => False
def mYes : M Bool := fun _ _ S => .ok true S
theorem rts_nil {B : WX} : PTs X [] (rdT g B mYes) := ⟨fun pins s σ H Q I ⟨bs, ρ, F, N, env, S, s1, e, p⟩ => pts_nil.run pins s σ H Q I (p ρ F H true (Grow.refl _ _) s1 rfl)⟩
theorem rts_one {B : WX} {c : Expr} {m : M Bool} (h : PT X c (rdT g B m)) : PTs X [c] (rdT g B m) := pts_one h
/-- no exception goes out of a comprehension's turns -/
def Out.bindC {α β : Type} : Out α → (α → Store → Out β) → Out β
  | .ok a S, f => f a S
  | _, _ => .stuck
@[simp] theorem Out.bindC_ok {α β : Type} (a : α) (S : Store) (f : α → Store → Out β) : (Out.ok a S).bindC f = f a S := rfl
def compG (it : Iter) (t : TM) (c : M Bool) (e : M W) : Nat → Nat → List W → M (List W)
  | 0, _, _ => fun _ _ _ => .stuck
  | f + 1, i, acc => fun bs env S => match it.next i S with
    | none => .stuck
    | some none => .ok acc S
    | some (some w) => (t w bs env S).bindC fun env1 S1 => (c bs env1 S1).bindC fun b S2 =>
      if b = true then (e bs env1 S2).bindC fun y S3 => if acc.length < 100000 then compG it t c e f (i + 1) (acc ++ [y]) bs env S3 else .stuck
      else compG it t c e f (i + 1) acc bs env S2
def mComp (k : Bool) (mi : M Iter) (vs : List Nat) (t : TM) (c : M Bool) (e : M W) : M W := fun bs env S => (mi bs env S).bind fun it S1 =>
  (compG it t c e it.fuel 0 [] bs (wipeE env vs) S1).bind fun ws S2 => .ok (newL k ws S2).1 (newL k ws S2).2
theorem Post.bindC {α β γ δ ε : Type} {R1 : List Addr → Hp → β → α → Prop} {R2 : List Addr → Hp → δ → γ → Prop} {σ' : L2.St} {Q : δ → Hp → Prop} {o : Out α} {f : α → Store → Out ε} {f2 : ε → Store → Out γ} {N' : Hp}
    (h : Post g B R2 bs ρ F N σ Q ((o.bindC f).bind f2)) :
    Post g NoB R1 bs ρ F N' σ' (fun v H1 => ∃ ρ' F' a S', Grow ρ F ρ' F' ∧ Sim g bs ρ' F' N' S' H1 ∧ R1 ρ' F' v a ∧ Post g B R2 bs ρ' F' N σ Q ((f a S').bind f2)) o := by
  cases o with
  | ok a S1 => exact fun ρ' F' H' v gr s' r => ⟨ρ', F', a, S1, gr, s', r, Post.grow gr h⟩
  | ex c ws S1 => exact h.elim
  | stuck => exact h.elim
end
end Rf

set_option maxHeartbeats 4000000
namespace Rf
open PySem L2
section
variable {X : Cx} {g : Gx} {B : WX} {bs : List Nat} {ρ ρ1 : List Addr} {F F1 N N' : Hp} {σ σ' : L2.St} {vs : List Nat} {e : Expr} {es : List Expr} {pos : Pos}
theorem PostG.bindC {γ δ ε : Type} {R2 : List Addr → Hp → δ → γ → Prop} {Q : δ → Hp → Prop} {o : Out Env} {f : Env → Store → Out ε} {f2 : ε → Store → Out γ}
    (h : Post g B R2 bs ρ F N σ Q ((o.bindC f).bind f2)) {Q' : L2.St → Hp → Prop}
    (i : ∀ ρ' F' H' σ2 e2 S', Grow ρ F ρ' F' → Sim g bs ρ' F' N' S' H' → EnvR g ρ' F' σ2 e2 → Post g B R2 bs ρ' F' N σ Q ((f e2 S').bind f2) → Q' σ2 H') : PostG g NoB bs ρ F N' σ' Q' o := by
  cases o with
  | ok a S1 => exact fun ρ' F' H' σ2 gr s' r => i ρ' F' H' σ2 a S1 gr s' r (Post.grow gr h)
  | ex c ws S1 => exact h.elim
  | stuck => exact h.elim
theorem wipe_wipe {ws : List Nat} : ∀ {vs : List Nat}, (∀ i ∈ vs, i ∈ ws) → wipe (wipe σ vs) ws = wipe σ ws
  | [], _ => rfl
  | v :: vs, h => by
    show wipe ((wipe σ vs).set v none) ws = _
    rw [set_wipe (h v (List.mem_cons_self ..)), wipe_wipe fun i hi => h i (List.mem_cons_of_mem _ hi)]
def finL (k : Bool) : List W → Store → Out W := fun ws S2 => .ok (newL k ws S2).1 (newL k ws S2).2
theorem IsAll.snoc {K : PySem.W.Frag} {v : V} {w : W} : ∀ {ws : List W} {us : List V}, IsAll K ρ F us ws → Is K ρ F v w → IsAll K ρ F (us ++ [v]) (ws ++ [w])
  | [], _, h, r => by cases h; exact .cons r .nil
  | _ :: _, _, h, r => by
    cases h with
    | cons a b => exact .cons a (IsAll.snoc b r)
/-- a turn's end: the item is put behind -/
theorem comp_put {D : Addr} {accv : List V} {acc : List W} {S : Store} {H : Hp} {yv : V} {y : W} (s : Sim g bs ρ F (upd N D (.lst accv)) S H) (l : IsAll g.K ρ F accv acc) (r : Is g.K ρ F yv y) (hl : acc.length < 100000) :
    ∃ a, H D = some (.lst a) ∧ a.length < sizeLine ∧ Sim g bs ρ F (upd N D (.lst (a ++ [yv]))) S (upd H D (.lst (a ++ [yv]))) ∧ IsAll g.K ρ F (a ++ [yv]) (acc ++ [y]) :=
  ⟨accv, s.hid D _ upd_same, by rw [l.len]; exact Nat.lt_of_lt_of_le hl (by decide), s.rehide, l.snoc r⟩
theorem rd_lc {k : Bool} {mi : M Iter} {t : TM} {mc : M Bool} {me : M W} {vs : List Nat} (σ : L2.St) (H : Hp) (Q : VK) (h : rd g B (mComp k mi vs t mc me) σ H Q) : tLc (rdI g B mi) (rdTc g NoB vs t) (rdT g NoB mc) (rd g NoB me) vs σ H Q := by
  obtain ⟨bs, ρ, F, N, env, S, s, e, p⟩ := h
  refine ⟨bs, ρ, F, N, env, S, s, e, ?_⟩
  unfold mComp at p
  cases hm : mi bs env S with
  | stuck => rw [hm] at p; exact p
  | ex c ws S1 => rw [hm] at p; exact p
  | ok it S1 =>
    rw [hm] at p
    intro ρ1 F1 H1 J g1 s1 wk D hD
    obtain ⟨fD, nD, rD⟩ := s1.freeN hD
    have p1 : Post g B (RW g) bs ρ1 F1 N σ Q ((compG it t mc me it.fuel 0 [] bs (wipeE env vs) S1).bind (finL k)) := Post.grow g1 p
    have ev := (e.mono g1).wipe vs
    refine ⟨fun i m H' => ∃ ρ' F' accv acc S', Grow ρ1 F1 ρ' F' ∧ Sim g bs ρ' F' (upd N D (.lst accv)) S' H' ∧ IsAll g.K ρ' F' accv acc ∧ Post g B (RW g) bs ρ' F' N σ Q ((compG it t mc me m i acc bs (wipeE env vs) S').bind (finL k)), ⟨it.fuel, ρ1, F1, [], [], S1, Grow.refl _ _, s1.hide hD, .nil, p1⟩, ?_⟩
    rintro i m H' ⟨ρ', F', accv, acc, S', g', s', l', p'⟩
    cases m with
    | zero => exact p'.elim
    | succ f =>
      unfold compG at p'
      have w := wk bs ρ' F' _ S' H' i g' s'
      cases hx : it.next i S' with
      | none => rw [hx] at p'; exact p'.elim
      | some o =>
        cases o with
        | none => simp only [hx] at p' w; exact .inl ⟨w, show_ok s' nD l' p'⟩
        | some x =>
          simp only [hx] at p' w
          refine .inr ⟨w.1, fun H2 => ∃ ρ2 F2 accv acc S2, Grow ρ' F' ρ2 F2 ∧ Sim g bs ρ2 F2 (upd N D (.lst accv)) S2 H2 ∧ IsAll g.K ρ2 F2 accv acc ∧ Post g B (RW g) bs ρ2 F2 N σ Q ((compG it t mc me f (i + 1) acc bs (wipeE env vs) S2).bind (finL k)), fun H2 ⟨ρ2, F2, accv, acc, S2, g2, s2, l2, p2⟩ => ⟨f, Nat.lt_succ_self f, ρ2, F2, accv, acc, S2, g'.trans g2, s2, l2, p2⟩, fun v H2 y => ?_⟩
          obtain ⟨F2, g2, s2, r2⟩ := w.2 v H2 y
          have p2 := Post.grow g2 p'
          refine ⟨bs, ρ', F2, _, _, S', x, s2, (ev.mono g').mono g2, r2, PostG.bindC p2 fun ρ3 F3 H3 σ3 e3 S3 g3 s3 ev3 p3 w3 => ⟨w3.trans (wipe_wipe fun _ h => h), ?_⟩⟩
          refine ⟨bs, ρ3, F3, _, e3, S3, s3, ev3, (Post.bindC (R1 := RB) p3).imp fun b H4 ⟨ρ4, F4, b', S4, g4, s4, r4, p4⟩ => ?_⟩
          cases r4
          cases b with
          | false => exact ⟨ρ4, F4, accv, acc, S4, (g2.trans g3).trans g4, s4, ((l'.mono g2).mono g3).mono g4, p4⟩
          | true =>
            simp only [if_true] at p4 ⊢
            refine ⟨bs, ρ4, F4, _, e3, S4, s4, ev3.mono g4, (Post.bindC (R1 := RW g) p4).imp fun yv H5 ⟨ρ5, F5, y', S5, g5, s5, r5, p5⟩ => ?_⟩
            split at p5
            · rename_i hl
              obtain ⟨a, e1, e2, e3, e4⟩ := comp_put s5 ((((l'.mono g2).mono g3).mono g4).mono g5) r5 hl
              exact ⟨a, e1, e2, ρ5, F5, _, _, S5, ((g2.trans g3).trans g4).trans g5, e3, e4, p5⟩
            · exact p5.elim
theorem re_lc {k : Bool} {elt tg iter : Expr} {ifs : List Expr} {scope : Scope} {own : List (Str × Nat)} {mi : M Iter} {t : TM} {mc : M Bool} {me : M W} (hc : X.calm = true) (hN : X.N.Nodup) (ok : BlkOk X.N X.env.scope scope own) (hi : PI X tg iter (rdI g B mi))
    (hg : ∀ (s : Shared) (H : Hp) (C : Addr) (cl : List (Str × Addr)) (fp : List Addr), PG (X.blk s H scope (compEnvC scope cl C X.env) fp) tg (rdTc g NoB (own.map (·.2)) t)) (ht : ∀ (s : Shared) (H : Hp) (C : Addr) (cl : List (Str × Addr)) (fp : List Addr), PTs (X.blk s H scope (compEnvC scope cl C X.env) fp) ifs (rdT g NoB mc))
    (he : ∀ (s : Shared) (H : Hp) (C : Addr) (cl : List (Str × Addr)) (fp : List Addr), PE (X.blk s H scope (compEnvC scope cl C X.env) fp) elt (rd g NoB me)) (hs : ∀ x, foldedSetIterable iter X.env x = pure x := by intro _; rfl) :
    PE X (.ListComp elt [⟨tg, iter, ifs, 0⟩] scope pos) (rd g B (mComp k mi (own.map (·.2)) t mc me)) := (pe_lc hc hN hi ok hg ht he hs).imp rd_lc
theorem rs_setLc {k : Bool} {i : Nat} {y : Str} {py spos : Pos} {elt tg iter : Expr} {ifs : List Expr} {scope : Scope} {own : List (Str × Nat)} {mi : M Iter} {t : TM} {mc : M Bool} {me : M W} (hc : X.calm = true) (hN : X.N.Nodup) (hy : X.N[i]? = some y) (hyl : X.env.scope.names.lookup y = some .local)
    (hsw : swapsWith (.ListComp elt [⟨tg, iter, ifs, 0⟩] scope pos) (some (.Name y py)) spos.line X.env = pure true) (ok : BlkOk X.N X.env.scope scope own) (hi : PI X tg iter (rdI g B mi))
    (hg : ∀ (s : Shared) (H : Hp) (C : Addr) (cl : List (Str × Addr)) (fp : List Addr), PG (X.blk s H scope (compEnvC scope cl C X.env) fp) tg (rdTc g NoB (own.map (·.2)) t)) (ht : ∀ (s : Shared) (H : Hp) (C : Addr) (cl : List (Str × Addr)) (fp : List Addr), PTs (X.blk s H scope (compEnvC scope cl C X.env) fp) ifs (rdT g NoB mc))
    (he : ∀ (s : Shared) (H : Hp) (C : Addr) (cl : List (Str × Addr)) (fp : List Addr), PE (X.blk s H scope (compEnvC scope cl C X.env) fp) elt (rd g NoB me)) (hs : ∀ x, foldedSetIterable iter X.env x = pure x := by intro _; rfl) :
    PS X (.Assign [.Name y py] (.ListComp elt [⟨tg, iter, ifs, 0⟩] scope pos) spos) (rdS g B (sAsg (mComp k mi (own.map (·.2)) t mc me) (tName i))) := (ps_setLc hc hN hy hyl hsw hi ok hg ht he hs).imp fun D σ H h =>
  rd_lc σ H _ (rdG_imp (rd_asg D σ H h) fun v H1 ⟨bs, ρ, F, N, env, S, w, s, e, r, p⟩ => p ρ F H1 _ (Grow.refl _ _) s (e.set i r))

/-! ### while -/
def whileG (c : M Bool) (b : MS) : Nat → MS
  | 0 => fun _ _ _ => .stuck
  | f + 1 => fun bs env S => (c bs env S).so env fun t S1 => if t = true then (b bs env S1).turn fun e S2 => whileG c b f bs e S2 else .nx env S1
theorem rs_while {n : Nat} {c : Expr} {body : List Stmt} {mc : M Bool} {m : MS} (hp : PassesOwn (model X.prog X.w) X.A X.env X.xe) (hc : PT X c (rdT g B mc)) (hb : PSs X body (rdS g B m)) : PS X (.While c body [] pos) (rdS g B (whileG mc m n)) := (ps_while hp hc hb).imp fun D σ H ⟨bs, ρ, F, N, env, S, s, e, p⟩ => by
  refine ⟨fun m' σ' H' => ∃ ρ' F' env' S', Grow ρ F ρ' F' ∧ Sim g bs ρ' F' N S' H' ∧ EnvR g ρ' F' σ' env' ∧ PostS g B bs ρ' F' N D (whileG mc m m' bs env' S'), ⟨n, ρ, F, env, S, Grow.refl _ _, s, e, p⟩, ?_⟩
  rintro m' σ' H' ⟨ρ', F', env', S', g', s', e', p'⟩
  cases m' with
  | zero => exact p'.elim
  | succ f =>
    unfold whileG at p'
    refine ⟨bs, ρ', F', N, env', S', s', e', (PostS.out (R := RB) e' p').imp fun b H1 ⟨ρ1, F1, b', S1, g1, s1, r1, p1⟩ => ?_⟩
    cases r1
    cases b with
    | false => exact p1 ρ1 F1 H1 σ' (Grow.refl _ _) s1 (e'.mono g1)
    | true =>
      simp only [if_true] at p1 ⊢
      refine ⟨fun σ2 H2 => ∃ ρ2 F2 env2 S2, Grow ρ' F' ρ2 F2 ∧ Sim g bs ρ2 F2 N S2 H2 ∧ EnvR g ρ2 F2 σ2 env2 ∧ PostS g B bs ρ2 F2 N D (whileG mc m f bs env2 S2), fun σ2 H2 ⟨ρ2, F2, env2, S2, g2, s2, e2, p2⟩ => ⟨f, Nat.lt_succ_self f, ρ2, F2, env2, S2, g'.trans g2, s2, e2, p2⟩, ?_⟩
      refine ⟨bs, ρ1, F1, N, env', S1, s1, e'.mono g1, ?_⟩
      cases ho : m bs env' S1 with
      | nx e4 S4 => simp only [ho, SO.turn] at p1; exact fun ρ4 F4 H4 σ4 g4 s4 e4' => ⟨ρ4, F4, e4, S4, g1.trans g4, s4, e4', PostS.grow g4 p1⟩
      | ct e4 S4 => simp only [ho, SO.turn] at p1; exact fun ρ4 F4 H4 σ4 g4 s4 e4' => ⟨ρ4, F4, e4, S4, g1.trans g4, s4, e4', PostS.grow g4 p1⟩
      | bk e4 S4 => simp only [ho, SO.turn] at p1; exact p1
      | rt w4 S4 => simp only [ho, SO.turn] at p1; exact p1
      | ex c ws e4 S4 => simp only [ho, SO.turn] at p1; exact p1
      | stuck => simp only [ho, SO.turn] at p1; exact p1
end
end Rf

set_option maxHeartbeats 4000000
namespace Rf
open PySem L2
section
variable {X : Cx} {g : Gx} {B : WX} {bs : List Nat} {ρ ρ1 : List Addr} {F F1 N N' : Hp} {σ σ' : L2.St} {vs : List Nat} {e : Expr} {es : List Expr} {pos : Pos}
theorem Out.bind_assoc {α β γ : Type} (o : Out α) (f : α → Store → Out β) (h : β → Store → Out γ) : (o.bind f).bind h = o.bind fun a S => (f a S).bind h := by cases o <;> rfl
theorem Out.bindC_bind {α β γ : Type} (o : Out α) (f : α → Store → Out β) (h : β → Store → Out γ) : (o.bindC f).bind h = o.bindC fun a S => (f a S).bind h := by cases o <;> rfl
theorem PostI.bindC {γ δ ε : Type} {R2 : List Addr → Hp → δ → γ → Prop} {Q : δ → Hp → Prop} {o : Out Iter} {f : Iter → Store → Out ε} {f2 : ε → Store → Out γ}
    (h : Post g B R2 bs ρ F N σ Q ((o.bindC f).bind f2)) {R : It → Hp → Prop}
    (i : ∀ ρ' F' H' J it S', Grow ρ F ρ' F' → Sim g bs ρ' F' N' S' H' → WalkOk g J ρ' F' it → Post g B R2 bs ρ' F' N σ Q ((f it S').bind f2) → R J H') : PostI g NoB bs ρ F N' σ' R o := by
  cases o with
  | ok a S1 => exact fun ρ' F' H' J gr s' wk => i ρ' F' H' J a S1 gr s' wk (Post.grow gr h)
  | ex c ws S1 => exact h.elim
  | stuck => exact h.elim
theorem PostG.bindCC {γ δ ε : Type} {R2 : List Addr → Hp → δ → γ → Prop} {Q : δ → Hp → Prop} {o : Out Env} {f : Env → Store → Out ε} {f2 : ε → Store → Out γ}
    (h : Post g B R2 bs ρ F N σ Q ((o.bindC f).bindC f2)) {Q' : L2.St → Hp → Prop}
    (i : ∀ ρ' F' H' σ2 e2 S', Grow ρ F ρ' F' → Sim g bs ρ' F' N' S' H' → EnvR g ρ' F' σ2 e2 → Post g B R2 bs ρ' F' N σ Q ((f e2 S').bindC f2) → Q' σ2 H') : PostG g NoB bs ρ F N' σ' Q' o := by
  cases o with
  | ok a S1 => exact fun ρ' F' H' σ2 gr s' r => i ρ' F' H' σ2 a S1 gr s' r (Post.grow gr h)
  | ex c ws S1 => exact h.elim
  | stuck => exact h.elim
theorem Post.bindCC {α β γ δ ε : Type} {R1 : List Addr → Hp → β → α → Prop} {R2 : List Addr → Hp → δ → γ → Prop} {σ' : L2.St} {Q : δ → Hp → Prop} {o : Out α} {f : α → Store → Out ε} {f2 : ε → Store → Out γ} {N' : Hp}
    (h : Post g B R2 bs ρ F N σ Q ((o.bindC f).bindC f2)) :
    Post g NoB R1 bs ρ F N' σ' (fun v H1 => ∃ ρ' F' a S', Grow ρ F ρ' F' ∧ Sim g bs ρ' F' N' S' H1 ∧ R1 ρ' F' v a ∧ Post g B R2 bs ρ' F' N σ Q ((f a S').bindC f2)) o := by
  cases o with
  | ok a S1 => exact fun ρ' F' H' v gr s' r => ⟨ρ', F', a, S1, gr, s', r, Post.grow gr h⟩
  | ex c ws S1 => exact h.elim
  | stuck => exact h.elim
def compG2 (it : Iter) (t : TM) (c : M Bool) (mi1 : M Iter) (vs1 : List Nat) (t1 : TM) (c1 : M Bool) (e : M W) : Nat → Nat → List W → M (List W)
  | 0, _, _ => fun _ _ _ => .stuck
  | f + 1, i, acc => fun bs env S => match it.next i S with
    | none => .stuck
    | some none => .ok acc S
    | some (some w) => (t w bs env S).bindC fun env1 S1 => (c bs env1 S1).bindC fun b S2 =>
      if b = true then (mi1 bs env1 S2).bindC fun it1 S3 => (compG it1 t1 c1 e it1.fuel 0 acc bs (wipeE env1 vs1) S3).bindC fun acc' S4 => compG2 it t c mi1 vs1 t1 c1 e f (i + 1) acc' bs env S4
      else compG2 it t c mi1 vs1 t1 c1 e f (i + 1) acc bs env S2
def mComp2 (k : Bool) (mi : M Iter) (vs : List Nat) (t : TM) (c : M Bool) (mi1 : M Iter) (vs1 : List Nat) (t1 : TM) (c1 : M Bool) (e : M W) : M W := fun bs env S => (mi bs env S).bind fun it S1 =>
  (compG2 it t c mi1 vs1 t1 c1 e it.fuel 0 [] bs (wipeE env vs) S1).bind fun ws S2 => .ok (newL k ws S2).1 (newL k ws S2).2
theorem wkGrow {J : It} {it : Iter} (w : WalkOk g J ρ F it) (gr : Grow ρ F ρ1 F1) : WalkOk g J ρ1 F1 it := fun bs ρ' F' N2 S' H' i g2 s => w bs ρ' F' N2 S' H' i (gr.trans g2) s
theorem rd_lc2 {k : Bool} {mi mi1 : M Iter} {t t1 : TM} {mc mc1 : M Bool} {me : M W} {vs vs1 : List Nat} (σ : L2.St) (H : Hp) (Q : VK) (h : rd g B (mComp2 k mi vs t mc mi1 vs1 t1 mc1 me) σ H Q) :
    tLc2 (rdI g B mi) (rdTc g NoB vs t) (rdT g NoB mc) (rdI g NoB mi1) (rdTc g NoB vs1 t1) (rdT g NoB mc1) (rd g NoB me) vs vs1 σ H Q := by
  obtain ⟨bs, ρ, F, N, env, S, s, e, p⟩ := h
  refine ⟨bs, ρ, F, N, env, S, s, e, ?_⟩
  unfold mComp2 at p
  cases hm : mi bs env S with
  | stuck => rw [hm] at p; exact p
  | ex c ws S1 => rw [hm] at p; exact p
  | ok it S1 =>
    rw [hm] at p
    intro ρ1 F1 H1 J g1 s1 wk D hD
    obtain ⟨fD, nD, rD⟩ := s1.freeN hD
    have p1 : Post g B (RW g) bs ρ1 F1 N σ Q ((compG2 it t mc mi1 vs1 t1 mc1 me it.fuel 0 [] bs (wipeE env vs) S1).bind (finL k)) := Post.grow g1 p
    have ev := (e.mono g1).wipe vs
    refine ⟨fun i m H' => ∃ ρ' F' accv acc S', Grow ρ1 F1 ρ' F' ∧ Sim g bs ρ' F' (upd N D (.lst accv)) S' H' ∧ IsAll g.K ρ' F' accv acc ∧ Post g B (RW g) bs ρ' F' N σ Q ((compG2 it t mc mi1 vs1 t1 mc1 me m i acc bs (wipeE env vs) S').bind (finL k)), ⟨it.fuel, ρ1, F1, [], [], S1, Grow.refl _ _, s1.hide hD, .nil, p1⟩, ?_⟩
    rintro i m H' ⟨ρ', F', accv, acc, S', g', s', l', p'⟩
    cases m with
    | zero => exact p'.elim
    | succ f =>
      unfold compG2 at p'
      have w := wk bs ρ' F' _ S' H' i g' s'
      cases hx : it.next i S' with
      | none => rw [hx] at p'; exact p'.elim
      | some o =>
        cases o with
        | none => simp only [hx] at p' w; exact .inl ⟨w, show_ok s' nD l' p'⟩
        | some x =>
          simp only [hx] at p' w
          refine .inr ⟨w.1, fun H2 => ∃ ρ2 F2 accv acc S2, Grow ρ' F' ρ2 F2 ∧ Sim g bs ρ2 F2 (upd N D (.lst accv)) S2 H2 ∧ IsAll g.K ρ2 F2 accv acc ∧ Post g B (RW g) bs ρ2 F2 N σ Q ((compG2 it t mc mi1 vs1 t1 mc1 me f (i + 1) acc bs (wipeE env vs) S2).bind (finL k)), fun H2 ⟨ρ2, F2, accv, acc, S2, g2, s2, l2, p2⟩ => ⟨f, Nat.lt_succ_self f, ρ2, F2, accv, acc, S2, g'.trans g2, s2, l2, p2⟩, fun v H2 y => ?_⟩
          obtain ⟨F2, g2, s2, r2⟩ := w.2 v H2 y
          have p2 := Post.grow g2 p'
          refine ⟨bs, ρ', F2, _, _, S', x, s2, (ev.mono g').mono g2, r2, PostG.bindC p2 fun ρ3 F3 H3 σ3 e3 S3 g3 s3 ev3 p3 w3 => ⟨w3.trans (wipe_wipe fun _ h => h), ?_⟩⟩
          refine ⟨bs, ρ3, F3, _, e3, S3, s3, ev3, (Post.bindC (R1 := RB) p3).imp fun b H4 ⟨ρ4, F4, b', S4, g4, s4, r4, p4⟩ => ?_⟩
          cases r4
          have l4 := ((l'.mono g2).mono g3).mono g4
          have G4 := (g2.trans g3).trans g4
          cases b with
          | false => exact ⟨ρ4, F4, accv, acc, S4, G4, s4, l4, p4⟩
          | true =>
            simp only [if_true] at p4 ⊢
            refine ⟨bs, ρ4, F4, _, e3, S4, s4, ev3.mono g4, PostI.bindC p4 fun ρ5 F5 H5 J1 it1 S5 g5 s5 wk1 p5 => ?_⟩
            have ev5 := ((ev3.mono g4).mono g5).wipe vs1
            rw [Out.bindC_bind] at p5
            refine ⟨fun j k' H6 => ∃ ρ6 F6 accv acc S6, Grow ρ5 F5 ρ6 F6 ∧ Sim g bs ρ6 F6 (upd N D (.lst accv)) S6 H6 ∧ IsAll g.K ρ6 F6 accv acc ∧ Post g B (RW g) bs ρ6 F6 N σ Q ((compG it1 t1 mc1 me k' j acc bs (wipeE e3 vs1) S6).bindC fun acc' S4 => (compG2 it t mc mi1 vs1 t1 mc1 me f (i + 1) acc' bs (wipeE env vs) S4).bind (finL k)), ⟨it1.fuel, ρ5, F5, accv, acc, S5, Grow.refl _ _, s5, l4.mono g5, p5⟩, ?_⟩
            rintro j k' H6 ⟨ρ6, F6, accv6, acc6, S6, g6, s6, l6, p6⟩
            cases k' with
            | zero => exact p6.elim
            | succ f1 =>
              unfold compG at p6
              have w6 := wk1 bs ρ6 F6 _ S6 H6 j g6 s6
              cases hx6 : it1.next j S6 with
              | none => rw [hx6] at p6; exact p6.elim
              | some o6 =>
                cases o6 with
                | none =>
                  simp only [hx6, Out.bindC_ok] at p6 w6
                  exact .inl ⟨w6, ρ6, F6, accv6, acc6, S6, (G4.trans g5).trans g6, s6, l6, p6⟩
                | some x6 =>
                  simp only [hx6] at p6 w6
                  refine .inr ⟨w6.1, fun H7 => ∃ ρ7 F7 accv acc S7, Grow ρ6 F6 ρ7 F7 ∧ Sim g bs ρ7 F7 (upd N D (.lst accv)) S7 H7 ∧ IsAll g.K ρ7 F7 accv acc ∧ Post g B (RW g) bs ρ7 F7 N σ Q ((compG it1 t1 mc1 me f1 (j + 1) acc bs (wipeE e3 vs1) S7).bindC fun acc' S4 => (compG2 it t mc mi1 vs1 t1 mc1 me f (i + 1) acc' bs (wipeE env vs) S4).bind (finL k)), fun H7 ⟨ρ7, F7, accv, acc, S7, g7, s7, l7, p7⟩ => ⟨f1, Nat.lt_succ_self f1, ρ7, F7, accv, acc, S7, g6.trans g7, s7, l7, p7⟩, fun v7 H7 y7 => ?_⟩
                  obtain ⟨F7, g7, s7, r7⟩ := w6.2 v7 H7 y7
                  have p7 := Post.grow g7 p6
                  refine ⟨bs, ρ6, F7, _, _, S6, x6, s7, (ev5.mono g6).mono g7, r7, PostG.bindCC p7 fun ρ8 F8 H8 σ8 e8 S8 g8 s8 ev8 p8 w8 => ⟨w8.trans (wipe_wipe fun _ h => h), ?_⟩⟩
                  refine ⟨bs, ρ8, F8, _, e8, S8, s8, ev8, (Post.bindCC (R1 := RB) p8).imp fun b H9 ⟨ρ9, F9, b', S9, g9, s9, r9, p9⟩ => ?_⟩
                  cases r9
                  have l9 := ((l6.mono g7).mono g8).mono g9
                  have G9 := (g7.trans g8).trans g9
                  cases b with
                  | false => exact ⟨ρ9, F9, accv6, acc6, S9, G9, s9, l9, p9⟩
                  | true =>
                    simp only [if_true] at p9 ⊢
                    refine ⟨bs, ρ9, F9, _, e8, S9, s9, ev8.mono g9, (Post.bindCC (R1 := RW g) p9).imp fun yv HA ⟨ρA, FA, yA, SA, gA, sA, rA, pA⟩ => ?_⟩
                    split at pA
                    · rename_i hl
                      obtain ⟨a, e1, e2, e3, e4⟩ := comp_put sA (l9.mono gA) rA hl
                      exact ⟨a, e1, e2, ρA, FA, _, _, SA, G9.trans gA, e3, e4, pA⟩
                    · exact pA.elim
theorem re_lc2 {k : Bool} {elt tg iter tg1 iter1 : Expr} {ifs ifs1 : List Expr} {scope : Scope} {own : List (Str × Nat)} {vs1 : List Nat} {mi mi1 : M Iter} {t t1 : TM} {mc mc1 : M Bool} {me : M W} (hc : X.calm = true) (hN : X.N.Nodup) (ok : BlkOk X.N X.env.scope scope own) (hi : PI X tg iter (rdI g B mi))
    (hg : ∀ (s : Shared) (H : Hp) (C : Addr) (cl : List (Str × Addr)) (fp : List Addr), PG (X.blk s H scope (compEnvC scope cl C X.env) fp) tg (rdTc g NoB (own.map (·.2)) t)) (ht : ∀ (s : Shared) (H : Hp) (C : Addr) (cl : List (Str × Addr)) (fp : List Addr), PTs (X.blk s H scope (compEnvC scope cl C X.env) fp) ifs (rdT g NoB mc))
    (hi1 : ∀ (s : Shared) (H : Hp) (C : Addr) (cl : List (Str × Addr)) (fp : List Addr), PI (X.blk s H scope (compEnvC scope cl C X.env) fp) tg1 iter1 (rdI g NoB mi1))
    (hg1 : ∀ (s : Shared) (H : Hp) (C : Addr) (cl : List (Str × Addr)) (fp : List Addr), PG (X.blk s H scope (compEnvC scope cl C X.env) fp) tg1 (rdTc g NoB vs1 t1)) (ht1 : ∀ (s : Shared) (H : Hp) (C : Addr) (cl : List (Str × Addr)) (fp : List Addr), PTs (X.blk s H scope (compEnvC scope cl C X.env) fp) ifs1 (rdT g NoB mc1))
    (he : ∀ (s : Shared) (H : Hp) (C : Addr) (cl : List (Str × Addr)) (fp : List Addr), PE (X.blk s H scope (compEnvC scope cl C X.env) fp) elt (rd g NoB me)) (hv : ∀ i ∈ vs1, i ∈ own.map (·.2) := by decide) (hs : ∀ x, foldedSetIterable iter X.env x = pure x := by intro _; rfl) (hs1 : ∀ env x, foldedSetIterable iter1 env x = pure x := by intro _ _; rfl) :
    PE X (.ListComp elt [⟨tg, iter, ifs, 0⟩, ⟨tg1, iter1, ifs1, 0⟩] scope pos) (rd g B (mComp2 k mi (own.map (·.2)) t mc mi1 vs1 t1 mc1 me)) := (pe_lc2 hc hN hi ok hv hg ht hi1 hg1 ht1 he hs hs1).imp rd_lc2
end
end Rf

set_option maxHeartbeats 4000000
namespace Rf
open PySem L2

/-! ### slices -/
abbrev OpSl := W → Option Int → Option Int → Store → Option (W × Store)
def rdO (g : Gx) (B : WX) (m : M (Option Int)) : TO := rdG g B (fun _ _ a b => a = b) m
def mNoPart : M (Option Int) := fun _ _ S => .ok none S
def mPart (m : M W) : M (Option Int) := fun bs env S => (m bs env S).bind fun w S1 => match w with
  | .dat (.int i) => .ok (some i) S1
  | _ => .stuck
def cutW {α : Type} (xs : List α) (lo hi : Option Int) : List α := (xs.drop (HT.sIx xs.length 0 lo)).take (HT.sIx xs.length xs.length hi - HT.sIx xs.length 0 lo)
def slF (k : Bool) : OpSl := fun w lo hi S => match tupOf w with
  | some ws => if HT.sIx ws.length 0 lo = 0 ∧ HT.sIx ws.length ws.length hi = ws.length then some (w, S) else some (mkTup (cutW ws lo hi), S)
  | none => match lstOf S w with
    | some ws => some (newL k (cutW ws lo hi) S)
    | none => match w with
      | .dat (.str z) => if z.length ≤ 100000 then some (.str (cutS z lo hi), S) else none
      | _ => none
def mSl (f : OpSl) (ma : M W) (ml mh : M (Option Int)) : M W := fun bs env S => (ma bs env S).bind fun w S1 => (ml bs env S1).bind fun l S2 => (mh bs env S2).bind fun h S3 => match f w l h S3 with
  | some (r, S4) => .ok r S4
  | none => .stuck
section
variable {X : Cx} {g : Gx} {B : WX} {bs : List Nat} {ρ ρ1 : List Addr} {F F1 N : Hp} {σ : L2.St} {a b c e : Expr} {es : List Expr} {ma mb mc : M W} {ms : M (List W)} {pos p2 : Pos} {lo hi : Option Expr} {ml mh : M (Option Int)}
theorem ro_noPart : PO X none (rdO g B mNoPart) := ⟨fun pins s σ H Q I ⟨bs, ρ, F, N, env, S, s1, e, p⟩ => po_none.run pins s σ H Q I (p ρ F H none (Grow.refl _ _) s1 rfl)⟩
theorem ro_part (h : PE X e (rd g B ma)) : PO X (some e) (rdO g B (mPart ma)) := ⟨fun pins s σ H Q I ⟨bs, ρ, F, N, env, S, s1, e, p⟩ => (po_some h).run pins s σ H Q I ⟨bs, ρ, F, N, env, S, s1, e, (Post.bind (R1 := RW g) p).imp fun x H1 ⟨ρ1, F1, wx, S1, g1, s1, r1, p1⟩ => by
  split at p1
  · rw [is_int r1]; exact ⟨_, rfl, p1 ρ1 F1 H1 _ (Grow.refl _ _) s1 rfl⟩
  · exact p1.elim⟩⟩
theorem IsAll.cut {K : PySem.W.Frag} {ws : List W} {vs : List V} (h : IsAll K ρ F vs ws) (lo hi : Option Int) : IsAll K ρ F (cutV vs lo hi) (cutW ws lo hi) := by
  unfold cutV cutW
  rw [h.len]
  exact (h.drop _).take _
def rdSl (g : Gx) (f : OpSl) : V → Option Int → Option Int → Hp → VK → Prop := fun x lo hi H Q => ∃ bs ρ F N S wx, Sim g bs ρ F N S H ∧ Is g.K ρ F x wx ∧ PostV g bs ρ F N Q (f wx lo hi S)
theorem slr (hK : g.K = X.K) {k : Bool} : SlR X (rdSl g (slF k)) := by
  intro pins s σ H x v vl vu lo hi sl Q I rx hs pl pu ⟨bs, ρ, F, N, S, wx, s1, r, p⟩
  unfold slF at p
  split at p
  · rename_i ws hw
    obtain ⟨a, vs, rfl, q, l⟩ := tup_of r hw
    rw [hK] at q
    refine sl_tupA pins s σ H _ v vl vu lo hi sl Q I rx hs pl pu ⟨a, vs, rfl, Same.sqT s1.ex q, ?_⟩
    rw [l.len]
    split at p
    · rename_i hz
      exact ⟨fun _ => p ρ F H _ (Grow.refl _ _) s1 r, fun z => absurd hz z⟩
    · rename_i hz
      exact ⟨fun z => absurd z hz, fun _ q hq => newT_ok s1 hq (l.cut lo hi) p⟩
  · split at p
    · rename_i ws hw
      obtain ⟨a, vs, rfl, q, l⟩ := lst_of s1 r hw
      rw [hK] at q
      exact sl_list pins s σ H _ v vl vu lo hi sl Q I rx hs pl pu ⟨a, vs, rfl, q, fun q hq => new_ok s1 hq (l.cut lo hi) p⟩
    · split at p
      · rename_i z _ _
        split at p
        · rename_i hz
          cases r with
          | dat r => cases r; exact sl_str pins s σ H _ v vl vu lo hi sl Q I rx hs pl pu ⟨z, rfl, line5 hz, p ρ F H _ (Grow.refl _ _) s1 (.dat (.str _))⟩
        · exact p.elim
      · exact p.elim
theorem re_sl {f : OpSl} (hr : SlR X (rdSl g f)) (he : PE X e (rd g B ma)) (hl : PO X lo (rdO g B ml)) (hu : PO X hi (rdO g B mh)) : PE X (.Subscript e (.Slice lo hi none p2) pos) (rd g B (mSl f ma ml mh)) :=
  (pe_slice hr he hl hu).imp fun σ H Q ⟨bs, ρ, F, N, env, S, s, e, p⟩ => by
    refine ⟨bs, ρ, F, N, env, S, s, e, (Post.bind (R1 := RW g) p).imp fun x H1 ⟨ρ1, F1, wx, S1, g1, s1, r1, p1⟩ => ?_⟩
    refine ⟨bs, ρ1, F1, N, env, S1, s1, e.mono g1, (Post.bind (R1 := fun _ _ a b => a = b) p1).imp fun l H2 ⟨ρ2, F2, l', S2, g2, s2, r2, p2⟩ => ?_⟩
    cases r2
    refine ⟨bs, ρ2, F2, N, env, S2, s2, (e.mono g1).mono g2, (Post.bind (R1 := fun _ _ a b => a = b) p2).imp fun u H3 ⟨ρ3, F3, u', S3, g3, s3, r3, p3⟩ => ?_⟩
    cases r3
    exact ⟨bs, ρ3, F3, N, S3, wx, s3, (r1.mono g2).mono g3, post_op p3⟩

/-! ### o[i] = .. -/
abbrev OpSet := List Nat → W → W → W → Store → Option Store
def PostU (g : Gx) (bs : List Nat) (ρ : List Addr) (F N : Hp) (Q : Hp → Prop) : Option Store → Prop
  | some S' => ∀ ρ' F' H', Grow ρ F ρ' F' → Sim g bs ρ' F' N S' H' → Q H'
  | none => False
def rdSet (g : Gx) (f : OpSet) : TSet := fun o i v H Q => ∃ bs ρ F N S wo wi wv, Sim g bs ρ F N S H ∧ Is g.K ρ F o wo ∧ Is g.K ρ F i wi ∧ Is g.K ρ F v wv ∧ PostU g bs ρ F N Q (f bs wo wi wv S)
/-- a write keeps what lies below popping frames -/
def mayW (bs : List Nat) (n : Nat) (w : W) : Bool := bs.all fun b => decide (b ≤ n) || w.und b
def setF : OpSet := fun bs o i v S => match o with
  | .loc n => match S[n]? with
    | some (.lst ws) => match i with
      | .dat (.int k) => match ixN ws.length k with
        | some j => if mayW bs n v then some (S.set n (.lst (ws.set j v))) else none
        | none => none
      | _ => none
    | some (.dic ws) => match i with
      | .dat d => match dkey d with
        | some k => if mayW bs n v ∧ ws.length < 100000 ∧ (ws.all fun p => (dkey p.1).any fun k' => kindK k' == kindK k) then some (S.set n (.dic (putW ws k v))) else none
        | none => none
      | _ => none
    | _ => none
  | _ => none
theorem undAll_iff {b : Nat} : ∀ {ws : List W}, W.undAll b ws = true ↔ ∀ w ∈ ws, w.und b = true
  | [] => by simp [W.undAll]
  | w :: ws => by simp [W.undAll, undAll_iff (ws := ws)]

theorem IsKV.len {K : PySem.W.Frag} : ∀ {ws : List (PyData × W)} {vs : List (PyData × V)}, IsKV K ρ F vs ws → vs.length = ws.length
  | _, _, .nil => rfl
  | _, _, .cons _ b => by simp [IsKV.len b]
theorem IsKV.any {K : PySem.W.Frag} (f : PyData → Bool) : ∀ {ws : List (PyData × W)} {vs : List (PyData × V)}, IsKV K ρ F vs ws → (vs.any fun p => f p.1) = ws.any fun p => f p.1
  | _, _, .nil => rfl
  | _, _, .cons _ b => by simp [IsKV.any f b]
theorem IsKV.put {K : PySem.W.Frag} (f : PyData → Prop) [DecidablePred f] {v : V} {w : W} (r : Is K ρ F v w) : ∀ {ws : List (PyData × W)} {vs : List (PyData × V)}, IsKV K ρ F vs ws → IsKV K ρ F (vs.map fun p => if f p.1 then (p.1, v) else p) (ws.map fun p => if f p.1 then (p.1, w) else p)
  | _, _, .nil => .nil
  | (k, _) :: _, _, .cons a b => by
    rw [List.map_cons, List.map_cons]
    by_cases h : f k
    · simp only [h, if_true]; exact .cons r (IsKV.put f r b)
    · simp only [h, if_false]; exact .cons a (IsKV.put f r b)
theorem IsKV.snoc {K : PySem.W.Frag} {k : PyData} {v : V} {w : W} (r : Is K ρ F v w) : ∀ {ws : List (PyData × W)} {vs : List (PyData × V)}, IsKV K ρ F vs ws → IsKV K ρ F (vs ++ [(k, v)]) (ws ++ [(k, w)])
  | _, _, .nil => .cons r .nil
  | _, _, .cons a b => .cons a (IsKV.snoc r b)
theorem put_kv {K : PySem.W.Frag} {κ : Type} [DecidableEq κ] (φ : κ → PyData) (ψ : κ → DKey) (h1 : ∀ k, dkey (φ k) = some (ψ k)) (h2 : ∀ k, (ψ k).d = φ k) (hi : ∀ a b, ψ a = ψ b → a = b) {kvs : List (κ × V)} {ws : List (PyData × W)} {k : κ} {v : V} {w : W}
    (h : IsKV K ρ F (kvs.map fun p => (φ p.1, p.2)) ws) (r : Is K ρ F v w) : IsKV K ρ F ((putK kvs k v).map fun p => (φ p.1, p.2)) (putW ws (ψ k) w) := by
  have e : ∀ x : κ, decide (dkey (φ x) = some (ψ k)) = decide (x = k) := fun x => by
    rw [h1]
    by_cases z : x = k
    · simp [z]
    · simp [z]; exact fun q => z (hi _ _ q)
  have ea := h.any fun d => decide (dkey d = some (ψ k))
  rw [List.any_map] at ea
  have ea' : (kvs.any fun kv => decide (kv.1 = k)) = ws.any fun p => decide (dkey p.1 = some (ψ k)) := by
    rw [← ea]
    congr 1
    funext p
    exact (e p.1).symm
  unfold putK putW
  rw [ea']
  split
  · have := h.put (fun d => dkey d = some (ψ k)) r
    rw [List.map_map] at this ⊢
    refine cast (congrArg (fun l => IsKV K ρ F l _) ?_) this
    congr 1
    funext p
    have e1 := e p.1
    by_cases z : p.1 = k
    · simp only [z, decide_true, decide_eq_true_eq] at e1
      simp [z, e1]
    · simp only [z, decide_false, decide_eq_false_iff_not] at e1
      simp [z, e1]
  · rw [List.map_append, h2]
    exact h.snoc r
theorem mayW_le {n : Nat} {w : W} (h : mayW bs n w = true) {b : Nat} (hb : b ∈ bs) (hn : n < b) : w.und b = true := by
  have := List.all_eq_true.mp h b hb
  simp only [Bool.or_eq_true, decide_eq_true_eq] at this
  rcases this with z | z
  · omega
  · exact z
theorem undAll_set {b : Nat} {ws : List W} {j : Nat} {w : W} (h : W.undAll b ws = true) (r : w.und b = true) : W.undAll b (ws.set j w) = true := by
  rw [undAll_iff] at h ⊢
  intro x hx
  rcases List.mem_or_eq_of_mem_set hx with z | z
  · exact h x z
  · rw [z]; exact r
theorem und_put {b : Nat} {ws : List (PyData × W)} {k : DKey} {w : W} (h : (ws.all fun p => p.2.und b) = true) (r : w.und b = true) : ((putW ws k w).all fun p => p.2.und b) = true := by
  rw [List.all_eq_true] at h ⊢
  unfold putW
  split
  · intro x hx
    obtain ⟨p, hp, rfl⟩ := List.mem_map.mp hx
    split
    · exact r
    · exact h p hp
  · intro x hx
    rcases List.mem_append.mp hx with z | z
    · exact h x z
    · simp at z; subst z; exact r
/-- a dict cell in the heap, of the kind of a key -/
theorem dic_kind {pins : List (Addr × Obj)} {sh : Shared} {H : Hp} {S : Store} {n : Nat} {a : Addr} {ws : List (PyData × W)} {k : DKey} (I : Inv X pins σ H sh) (s : Sim g bs ρ F N S H) (hn : ρ[n]? = some a) (hS : S[n]? = some (.dic ws)) (hk : (ws.all fun p => (dkey p.1).any fun k' => kindK k' == kindK k) = true) :
    ∃ H', Inv X pins σ H' sh ∧ Sim g bs ρ F N S H' ∧ ∃ vs, DicH H' a (kindK k) vs ∧ IsKV g.K ρ F vs ws := by
  have ub : ∀ b ∈ bs, n < b → (Cell.dic ws).und b = true := fun b hb hlt => (s.bot b hb).2 n _ hlt hS
  have hset : S.set n (.dic ws) = S := by
    have hl := (List.getElem?_eq_some_iff.mp hS)
    apply List.ext_getElem? ; intro i
    by_cases z : n = i
    · subst z; rw [List.getElem?_set_self hl.1, hS]
    · rw [List.getElem?_set_ne z]
  rcases s.cell n _ _ hS hn with ⟨kvs, e, q⟩ | ⟨kvs, e, q⟩
  · cases k with
    | one k => exact ⟨H, I, s, _, .k e, q⟩
    | tup ks =>
      cases ws with
      | nil =>
        have e0 : kvs = [] := by
          have := q.len; simp at this; exact this
        subst e0
        refine ⟨_, inv_kind I e, ?_, [], DicH.t (kvs := []) upd_same, .nil⟩
        have := s.write (o := .dT []) (c := .dic []) hn (.inr ⟨[], upd_same, .nil⟩) ub
        rwa [hset] at this
      | cons p ws =>
        exfalso
        obtain ⟨y, kvs', rfl⟩ : ∃ y l, kvs = y :: l := by
          cases kvs with
          | nil => cases q
          | cons y l => exact ⟨y, l, rfl⟩
        cases q
        rw [List.all_cons, Bool.and_eq_true] at hk
        have z : dkey (kD y.1) = some (.one y.1) := dkey_d (.one y.1)
        have := hk.1
        simp only [z, Option.any_some, kindK] at this
        simp at this
  · cases k with
    | tup k => exact ⟨H, I, s, _, .t e, q⟩
    | one ks =>
      cases ws with
      | nil =>
        have e0 : kvs = [] := by
          have := q.len; simp at this; exact this
        subst e0
        refine ⟨_, inv_kind' I e, ?_, [], DicH.k (kvs := []) upd_same, .nil⟩
        have := s.write (o := .dK []) (c := .dic []) hn (.inl ⟨[], upd_same, .nil⟩) ub
        rwa [hset] at this
      | cons p ws =>
        exfalso
        obtain ⟨y, kvs', rfl⟩ : ∃ y l, kvs = y :: l := by
          cases kvs with
          | nil => cases q
          | cons y l => exact ⟨y, l, rfl⟩
        cases q
        rw [List.all_cons, Bool.and_eq_true] at hk
        have z : dkey (.tuple (y.1.map kD)) = some (.tup y.1) := dkey_d (.tup y.1)
        have := hk.1
        simp only [z, Option.any_some, kindK] at this
        simp at this
theorem set_ok (hu : X.A.units + 1 < cLine) : PSet X (rdSet g setF) := by
  intro pins sh σ H o i v ov iv u Q I ro ri rv ⟨bs, ρ, F, N, S, wo, wi, wv, s, qo, qi, qv, p⟩
  unfold setF at p
  split at p
  · rename_i n
    cases qo with
    | loc hn =>
      rename_i a
      split at p
      · rename_i ws hS
        split at p
        · rename_i k
          rw [is_int qi] at ri
          split at p
          · rename_i j hj
            split at p
            · rename_i hm
              obtain ⟨vs, e, l⟩ := s.cell n _ _ hS hn
              refine set_list pins sh σ H _ _ v ov iv u Q I ro ri rv ⟨a, vs, k, j, rfl, rfl, e, by rw [l.len]; exact hj, ?_⟩
              refine p ρ F _ (Grow.refl _ _) (s.write hn ⟨_, upd_same, IsAll.set qv _ l⟩ fun b hb hlt => undAll_set ((s.bot b hb).2 n _ hlt hS) (mayW_le hm hb hlt))
            · exact p.elim
          · exact p.elim
        · exact p.elim
      · rename_i ws hS
        split at p
        · rename_i d
          split at p
          · rename_i k hk
            split at p
            · rename_i hm
              obtain ⟨hm, hz, hall⟩ := hm
              have hd := dkey_eq hk
              subst hd
              obtain ⟨H1, I1, s1, vs, hd, l⟩ := dic_kind I s hn hS hall
              have hz' : ∀ n : Nat, n = ws.length → n < sizeLine := fun n e => by rw [e]; exact Nat.lt_of_lt_of_le hz (by decide)
              have hl := l.len
              have ub : ∀ b ∈ bs, n < b → (Cell.dic (putW ws k wv)).und b = true := fun b hb hlt => und_put ((s1.bot b hb).2 n _ hlt hS) (mayW_le hm hb hlt)
              have r : Rp g.K F i k.d := by
                cases qi with
                | dat r => exact r
              cases k with
              | one k =>
                cases hd with
                | @k kvs e =>
                  have ei := key_one r
                  subst ei
                  exact set_dict hu pins sh σ H1 _ _ v ov iv u Q I1 ro ri rv ⟨a, _, rfl, DPut.k e (hz' _ (by simpa using hl)), p ρ F _ (Grow.refl _ _) (s1.write hn (.inl ⟨_, upd_same, put_kv kD .one (fun k => dkey_d (.one k)) (fun _ => rfl) (fun a b h => by injection h) l qv⟩) ub)⟩
              | tup ks =>
                cases hd with
                | @t kvs e =>
                  obtain ⟨b, rfl, hb⟩ := key_tup s1.ex r
                  exact set_dict hu pins sh σ H1 _ _ v ov iv u Q I1 ro ri rv ⟨a, _, rfl, DPut.t e hb (hz' _ (by simpa using hl)), p ρ F _ (Grow.refl _ _) (s1.write hn (.inr ⟨_, upd_same, put_kv (fun k : List Key => .tuple (k.map kD)) .tup (fun k => dkey_d (.tup k)) (fun _ => rfl) (fun a b h => by injection h) l qv⟩) ub)⟩
            · exact p.elim
          · exact p.elim
        · exact p.elim
      · exact p.elim
  · exact p.elim
/-- as a target -/
def tSub (mo mi : M W) (f : OpSet) : TM := fun w bs env S => (mo bs env S).bind fun o S1 => (mi bs env S1).bind fun i S2 => match f bs o i w S2 with
  | some S3 => .ok env S3
  | none => .stuck
theorem PostG.bind {α β : Type} {R : List Addr → Hp → β → α → Prop} {o : Out α} {f : α → Store → Out Env} {Q : L2.St → Hp → Prop} (h : PostG g B bs ρ F N σ Q (o.bind f)) :
    Post g B R bs ρ F N σ (fun v H1 => ∃ ρ' F' a S', Grow ρ F ρ' F' ∧ Sim g bs ρ' F' N S' H1 ∧ R ρ' F' v a ∧ PostG g B bs ρ' F' N σ Q (f a S')) o := by
  cases o with
  | ok a S1 => exact fun ρ' F' H' v gr s' r => ⟨ρ', F', a, S1, gr, s', r, PostG.grow gr h⟩
  | ex c ws S1 => exact h
  | stuck => exact h
theorem rg_sub {f : OpSet} (ho : PE X a (rd g B ma)) (hi : PE X b (rd g B mb)) (hs : PSet X (rdSet g f))
    (hA : ∀ v, assign (.Subscript a b pos) X.env v = (do
      let ov ← holding [v] (eval a X.env)
      let iv ← holding [v, ov] (eval b X.env)
      standAt pos
      holding [v, ov, iv] (setItem ov iv v)
      release [v, ov, iv] []) := by intro _; rfl) : PG X (.Subscript a b pos) (rdTg g B (tSub ma mb f)) := (pg_sub ho hi hs hA).imp fun v σ H Q ⟨bs, ρ, F, N, env, S, w, s, e, r, p⟩ => by
  refine ⟨bs, ρ, F, N, env, S, s, e, (PostG.bind (R := RW g) p).imp fun x H1 ⟨ρ1, F1, wx, S1, g1, s1, r1, p1⟩ => ?_⟩
  refine ⟨bs, ρ1, F1, N, env, S1, s1, e.mono g1, (PostG.bind (R := RW g) p1).imp fun y H2 ⟨ρ2, F2, wy, S2, g2, s2, r2, p2⟩ => ?_⟩
  refine ⟨bs, ρ2, F2, N, S2, wx, wy, w, s2, r1.mono g2, r2, (r.mono g1).mono g2, ?_⟩
  cases hq : f bs wx wy w S2 with
  | none => rw [hq] at p2; exact p2
  | some S3 => rw [hq] at p2; exact fun ρ' F' H' gr s' => p2 ρ' F' H' σ gr s' (((e.mono g1).mono g2).mono gr)
end
end Rf

set_option maxHeartbeats 4000000
namespace Rf
open PySem L2

/-! ### methods -/
inductive MTy where
  | lst
  | dic
  | str
def MTy.s : MTy → String
  | .lst => "list"
  | .dic => "dict"
  | .str => "str"
def wTy (T : MTy) (w : W) (S : Store) : Bool := match T with
  | .lst => (lstOf S w).isSome
  | .dic => (dicOf S w).isSome
  | .str => match w with
    | .dat (.str _) => true
    | _ => false
abbrev OpM := List Nat → W → List W → Store → Option (W × Store)
def mMt (T : MTy) (f : OpM) (mo : M W) (ms : M (List W)) : M W := fun bs env S => (mo bs env S).bind fun w S1 => if wTy T w S1 = true then (ms bs env S1).bind fun ws S2 => match f bs w ws S2 with
  | some (r, S3) => .ok r S3
  | none => .stuck
  else .stuck
def rdMt (g : Gx) (f : OpM) : V → List V → Hp → VK → Prop := fun x xs H Q => ∃ bs ρ F N S wx ws, Sim g bs ρ F N S H ∧ Is g.K ρ F x wx ∧ IsAll g.K ρ F xs ws ∧ PostV g bs ρ F N Q (f bs wx ws S)
section
variable {X : Cx} {g : Gx} {B : WX} {bs : List Nat} {ρ ρ1 : List Addr} {F F1 N : Hp} {S : Store} {σ : L2.St} {a b c e o : Expr} {es : List Expr} {ma mb mc mo : M W} {ms : M (List W)} {pos apos cpos : Pos} {name : Str} {id : String} {f : OpM}
theorem ty_ok {T : MTy} {w : W} {v : V} {H : Hp} (s : Sim g bs ρ F N S H) (r : Is g.K ρ F v w) (h : wTy T w S = true) : tyV g.K T.s v H := by
  cases T with
  | lst =>
    simp only [wTy, Option.isSome_iff_exists] at h
    obtain ⟨ws, h⟩ := h
    obtain ⟨a, vs, rfl, q, _⟩ := lst_of s r h
    exact .inl ⟨rfl, vs, q⟩
  | dic =>
    simp only [wTy, Option.isSome_iff_exists] at h
    obtain ⟨ws, h⟩ := h
    obtain ⟨a, n, vs, rfl, q, _⟩ := dic_of s r h
    cases q with
    | k e => exact .inr (.inr (.inl ⟨rfl, .inl ⟨_, e⟩⟩))
    | t e => exact .inr (.inr (.inl ⟨rfl, .inr ⟨_, e⟩⟩))
  | str =>
    simp only [wTy] at h
    split at h
    · cases r with
      | dat r => cases r; rfl
    · cases h
theorem re_mt (hK : g.K = X.K) {T : MTy} (pa : PlainAttrs T.s) (slot : Slot T.s name id) (hty : typeOf (.builtin id) = pure (.type "method_descriptor")) (hm : MtR X id (rdMt g f)) (ho : PE X o (rd g B mo)) (ha : PA X (e :: es) (rdA g B ms))
    (hbase : attributeBase o name X.env (eval o X.env) = eval o X.env := by rfl)
    (hfew : ((backTo cpos (starEach (e :: es) X.env)).all (fun x => !x.1) && (backToKw cpos (keywordEach [] X.env)).all (fun x => x.1.isSome)
      && decide ((e :: es).length + ([] : List Keyword).length + (if ([] : List Keyword).isEmpty then 0 else 1) < 30)) = true := by rfl)
    (hline : (apos.endLine == cpos.line) = true := by rfl) (hs : starEach (e :: es) X.env = (false, eval e X.env) :: starEach es X.env := by rfl) (hplain : (backTo cpos (starEach es X.env)).any (·.1) = false := by rfl) :
    PE X (.Call (.Attribute o name apos) (e :: es) [] cpos) (rd g B (mMt T f mo ms)) := (pe_bm pa slot hty hm ho ha hbase hfew hline hs hplain).imp fun σ H Q ⟨bs, ρ, F, N, env, S, s, e, p⟩ => by
  refine ⟨bs, ρ, F, N, env, S, s, e, (Post.bind (R1 := RW g) p).imp fun x H1 ⟨ρ1, F1, wx, S1, g1, s1, r1, p1⟩ => ?_⟩
  split at p1
  · rename_i hw
    refine ⟨hK ▸ ty_ok s1 r1 hw, bs, ρ1, F1, N, env, S1, s1, e.mono g1, (Post.bind (R1 := RWs g) p1).imp fun xs H2 ⟨ρ2, F2, ws, S2, g2, s2, r2, p2⟩ => ?_⟩
    exact ⟨bs, ρ2, F2, N, S2, wx, ws, s2, r1.mono g2, r2, post_op p2⟩
  · exact p1.elim
theorem re_mt0 (hK : g.K = X.K) {T : MTy} (pa : PlainAttrs T.s) (slot : Slot T.s name id) (hty : typeOf (.builtin id) = pure (.type "method_descriptor")) (hm : MtR X id (rdMt g f)) (ho : PE X o (rd g B mo))
    (hbase : attributeBase o name X.env (eval o X.env) = eval o X.env := by rfl) (hline : (apos.endLine == cpos.line) = true := by rfl) :
    PE X (.Call (.Attribute o name apos) [] [] cpos) (rd g B (mMt T f mo mNil)) := (pe_bm0 pa slot hty hm ho hbase hline).imp fun σ H Q ⟨bs, ρ, F, N, env, S, s, e, p⟩ => by
  refine ⟨bs, ρ, F, N, env, S, s, e, (Post.bind (R1 := RW g) p).imp fun x H1 ⟨ρ1, F1, wx, S1, g1, s1, r1, p1⟩ => ?_⟩
  split at p1
  · rename_i hw
    refine ⟨hK ▸ ty_ok s1 r1 hw, bs, ρ1, F1, N, S1, wx, [], s1, r1, .nil, ?_⟩
    exact post_op (B := B) (σ := σ) p1
  · exact p1.elim
/-- xs.append(w), xs.extend(ys), xs.pop(), xs.pop(i) -/
def appF : OpM := fun bs x ws S => match x, ws with
  | .loc n, [w] => match S[n]? with
    | some (.lst us) => if us.length < 100000 ∧ mayW bs n w = true then some (.non, S.set n (.lst (us ++ [w]))) else none
    | _ => none
  | _, _ => none
def extOf (S : Store) : W → Option (List W)
  | .dat (.list ds) => some (ds.map .dat)
  | .loc n => match S[n]? with
    | some (.lst ws) => some ws
    | _ => none
  | _ => none
def extF : OpM := fun bs x ws S => match x, ws with
  | .loc n, [y] => match S[n]?, extOf S y with
    | some (.lst us), some zs => if us.length + zs.length ≤ 100000 ∧ zs.all (mayW bs n) = true then some (.non, S.set n (.lst (us ++ zs))) else none
    | _, _ => none
  | _, _ => none
def popF : OpM := fun bs x ws S => match x, ws with
  | .loc n, [] => match S[n]? with
    | some (.lst us) => match us[us.length - 1]? with
      | some w => some (w, S.set n (.lst us.dropLast))
      | none => none
    | _ => none
  | .loc n, [.dat (.int i)] => match S[n]? with
    | some (.lst us) => if -(2 ^ 63) ≤ i ∧ i < 2 ^ 63 then match seqIndex? i us.length with
      | some k => match us[k]? with
        | some w => some (w, S.set n (.lst (us.eraseIdx k)))
        | none => none
      | none => none
      else none
    | _ => none
  | _, _ => none
theorem undAll_app {b : Nat} {xs ys : List W} (h : W.undAll b xs = true) (k : W.undAll b ys = true) : W.undAll b (xs ++ ys) = true := by
  rw [undAll_iff] at h k ⊢
  intro x hx
  rcases List.mem_append.mp hx with z | z
  · exact h x z
  · exact k x z
theorem undAll_sub {b : Nat} {xs ys : List W} (h : W.undAll b xs = true) (k : ∀ y ∈ ys, y ∈ xs) : W.undAll b ys = true := by
  rw [undAll_iff] at h ⊢
  exact fun y hy => h y (k y hy)
theorem IsAll.app {K : PySem.W.Frag} {ws' : List W} {vs' : List V} (k : IsAll K ρ F vs' ws') : ∀ {ws : List W} {vs : List V}, IsAll K ρ F vs ws → IsAll K ρ F (vs ++ vs') (ws ++ ws')
  | _, _, .nil => k
  | _, _, .cons a b => .cons a (IsAll.app k b)
theorem IsAll.dropLast {K : PySem.W.Frag} : ∀ {ws : List W} {vs : List V}, IsAll K ρ F vs ws → IsAll K ρ F vs.dropLast ws.dropLast
  | _, _, .nil => .nil
  | _, _, .cons a .nil => .nil
  | _, _, .cons a (.cons b c) => .cons a (IsAll.dropLast (.cons b c))
theorem IsAll.erase {K : PySem.W.Frag} : ∀ (k : Nat) {ws : List W} {vs : List V}, IsAll K ρ F vs ws → IsAll K ρ F (vs.eraseIdx k) (ws.eraseIdx k)
  | _, _, _, .nil => .nil
  | 0, _, _, .cons a b => b
  | k + 1, _, _, .cons a b => .cons a (IsAll.erase k b)
theorem mt_app : MtR X "list.append" (rdMt g appF) := by
  intro pins sh σ H x xs v us Q I rx rv ⟨bs, ρ, F, N, S, wx, ws, s, r, l, p⟩
  unfold appF at p
  split at p
  · rename_i n w
    cases r with
    | loc hn =>
      rename_i a
      obtain ⟨y, rfl, ry⟩ := all_one l
      split at p
      · rename_i us' hS
        split at p
        · rename_i hm
          obtain ⟨vs, e, q⟩ := s.cell n _ _ hS hn
          refine mt_append pins sh σ H _ _ v us Q I rx rv ⟨a, vs, y, rfl, rfl, e, by rw [q.len]; exact Nat.lt_of_lt_of_le hm.1 (by decide), ?_⟩
          exact p ρ F _ _ (Grow.refl _ _) (s.write hn ⟨_, upd_same, q.snoc ry⟩ fun b hb hlt => undAll_app ((s.bot b hb).2 n _ hlt hS) (by rw [undAll_iff]; intro z hz; simp at hz; rw [hz]; exact mayW_le hm.2 hb hlt)) (.dat .non)
        · exact p.elim
      · exact p.elim
  · exact p.elim
theorem ext_of {H : Hp} {zs : List W} {w : W} {v : V} (s : Sim g bs ρ F N S H) (r : Is g.K ρ F v w) (h : extOf S w = some zs) : ∃ b vs, v = .ref b ∧ H b = some (.lst vs) ∧ IsAll g.K ρ F vs zs := by
  unfold extOf at h
  split at h
  · cases h
    cases r with
    | dat r => cases r with
      | lst e l => exact ⟨_, _, rfl, s.ex _ _ e, l.isAll⟩
  · rename_i n
    cases r with
    | loc hn =>
      split at h
      · rename_i ws hS
        cases h
        obtain ⟨vs, e, q⟩ := s.cell n _ _ hS hn
        exact ⟨_, vs, rfl, e, q⟩
      · cases h
  · cases h
theorem mt_ext : MtR X "list.extend" (rdMt g extF) := by
  intro pins sh σ H x xs v us Q I rx rv ⟨bs, ρ, F, N, S, wx, ws, s, r, l, p⟩
  unfold extF at p
  split at p
  · rename_i n w
    cases r with
    | loc hn =>
      rename_i a
      obtain ⟨y, rfl, ry⟩ := all_one l
      split at p
      · rename_i us' zs hS hz
        split at p
        · rename_i hm
          obtain ⟨vs, e, q⟩ := s.cell n _ _ hS hn
          obtain ⟨b, vz, rfl, e2, q2⟩ := ext_of s ry hz
          refine mt_extend pins sh σ H _ _ v us Q I rx rv ⟨a, b, vs, vz, rfl, rfl, e, e2, by rw [q.len, q2.len]; exact Nat.le_trans hm.1 (by decide), ?_⟩
          exact p ρ F _ _ (Grow.refl _ _) (s.write hn ⟨_, upd_same, q2.app q⟩ fun b hb hlt => undAll_app ((s.bot b hb).2 n _ hlt hS) (by rw [undAll_iff]; intro z hz; exact mayW_le (List.all_eq_true.mp hm.2 z hz) hb hlt)) (.dat .non)
        · exact p.elim
      · exact p.elim
  · exact p.elim
theorem mt_popAll : MtR X "list.pop" (rdMt g popF) := by
  intro pins sh σ H x xs v us Q I rx rv ⟨bs, ρ, F, N, S, wx, ws, s, r, l, p⟩
  unfold popF at p
  split at p
  · rename_i n
    cases r with
    | loc hn =>
      rename_i a
      cases l
      split at p
      · rename_i us' hS
        split at p
        · rename_i w hw
          obtain ⟨vs, e, q⟩ := s.cell n _ _ hS hn
          obtain ⟨y, hy, ry⟩ := q.get hw
          refine mt_pop pins sh σ H _ _ v us Q I rx rv ⟨a, vs, y, rfl, rfl, e, by rw [q.len]; exact hy, ?_⟩
          exact p ρ F _ _ (Grow.refl _ _) (s.write hn ⟨_, upd_same, q.dropLast⟩ fun b hb hlt => undAll_sub ((s.bot b hb).2 n _ hlt hS) fun y hy => List.dropLast_subset _ hy) ry
        · exact p.elim
      · exact p.elim
  · rename_i n i
    cases r with
    | loc hn =>
      rename_i a
      obtain ⟨y, rfl, ry⟩ := all_one l
      have := is_int ry
      subst this
      split at p
      · rename_i us' hS
        split at p
        · rename_i hb
          split at p
          · rename_i k hk
            split at p
            · rename_i w hw
              obtain ⟨vs, e, q⟩ := s.cell n _ _ hS hn
              obtain ⟨y, hy, ry⟩ := q.get hw
              refine mt_popAt pins sh σ H _ _ v us Q I rx rv ⟨a, vs, i, k, y, rfl, rfl, e, hb.1, hb.2, by rw [q.len]; exact hk, hy, ?_⟩
              exact p ρ F _ _ (Grow.refl _ _) (s.write hn ⟨_, upd_same, q.erase k⟩ fun b hb hlt => undAll_sub ((s.bot b hb).2 n _ hlt hS) fun y hy => List.mem_of_mem_eraseIdx hy) ry
            · exact p.elim
          · exact p.elim
        · exact p.elim
      · exact p.elim
  · exact p.elim
def isLoc : W → Bool
  | .loc _ => true
  | _ => false
/-- a dict whose kind is that of the key -/
def dicRdy (x : W) (kvs : List (PyData × W)) (k : DKey) : Bool := (kvs.all fun p => (dkey p.1).any fun k' => kindK k' == kindK k) && (isLoc x || !kvs.isEmpty)
/-- d.get(k), d.get(k, x) -/
def getF : OpM := fun _ x ws S => match dicOf S x, ws with
  | some kvs, [.dat d] => match dkey d with
    | some k => if dicRdy x kvs k = true then some ((lookW kvs k).getD .non, S) else none
    | none => none
  | some kvs, [.dat d, y] => match dkey d with
    | some k => if dicRdy x kvs k = true then some ((lookW kvs k).getD y, S) else none
    | none => none
  | _, _ => none
theorem kind_of {H : Hp} {a : Addr} {n : Nat} {vs : List (PyData × V)} {ws : List (PyData × W)} {K : PySem.W.Frag} {k : DKey} (d : DicH H a n vs) (q : IsKV K ρ F vs ws) (hk : (ws.all fun p => (dkey p.1).any fun k' => kindK k' == kindK k) = true) (hne : ws.isEmpty = false) : kindK k = n := by
  cases q with
  | nil => simp at hne
  | @cons k0 v0 vs0 w0 ws0 a0 b0 =>
    rw [List.all_cons, Bool.and_eq_true] at hk
    have h1 := hk.1
    generalize hv : (k0, v0) :: vs0 = vs at d
    cases d with
    | @k kvs e =>
      cases kvs with
      | nil => cases hv
      | cons y l =>
        simp only [List.map_cons, List.cons.injEq, Prod.mk.injEq] at hv
        have z : dkey (kD y.1) = some (.one y.1) := dkey_d (.one y.1)
        rw [hv.1.1, z] at h1
        simp only [Option.any_some, beq_iff_eq] at h1
        exact h1.symm
    | @t kvs e =>
      cases kvs with
      | nil => cases hv
      | cons y l =>
        simp only [List.map_cons, List.cons.injEq, Prod.mk.injEq] at hv
        have z : dkey (.tuple (y.1.map kD)) = some (.tup y.1) := dkey_d (.tup y.1)
        rw [hv.1.1, z] at h1
        simp only [Option.any_some, beq_iff_eq] at h1
        exact h1.symm
/-- the dict at hand, of the kind of a key -/
theorem dic_ready {pins : List (Addr × Obj)} {sh : Shared} {H : Hp} {w : W} {v : V} {ws : List (PyData × W)} {k : DKey} (I : Inv X pins σ H sh) (s : Sim g bs ρ F N S H) (r : Is g.K ρ F v w) (h : dicOf S w = some ws)
    (hk : dicRdy w ws k = true) :
    ∃ H', Inv X pins σ H' sh ∧ Sim g bs ρ F N S H' ∧ ∃ a vs, v = .ref a ∧ DicH H' a (kindK k) vs ∧ IsKV g.K ρ F vs ws := by
  unfold dicRdy at hk
  rw [Bool.and_eq_true] at hk
  obtain ⟨h1, h2⟩ := hk
  cases w with
  | loc n =>
    unfold dicOf at h
    cases r with
    | loc hn =>
      simp only at h
      split at h
      · rename_i us hS
        cases h
        obtain ⟨H', I', s', vs, d, q⟩ := dic_kind I s hn hS h1
        exact ⟨H', I', s', _, vs, rfl, d, q⟩
      · cases h
  | dat d =>
    obtain ⟨a, n, vs, e, d, q⟩ := dic_of s r h
    have := kind_of d q h1 (by simpa [isLoc] using h2)
    subst this
    exact ⟨H, I, s, a, vs, e, d, q⟩
  | tw us => simp [dicOf] at h
  | lw us => simp [dicOf] at h
  | kt us => simp [dicOf] at h
theorem mt_get (hu : X.A.units + 1 < cLine) : MtR X "dict.get" (rdMt g getF) := by
  intro pins sh σ H x xs v us Q I rx rv ⟨bs, ρ, F, N, S, wx, ws, s, r, l, p⟩
  unfold getF at p
  split at p
  · rename_i kvs d hd
    obtain ⟨y, rfl, ry⟩ := all_one l
    split at p
    · rename_i k hk
      split at p
      · rename_i hc
        have e := dkey_eq hk
        subst e
        obtain ⟨H', I', s', a, vs, rfl, dh, q⟩ := dic_ready I s r hd hc
        obtain rfl : v = Value.ref a := rx
        obtain ⟨u, rfl, ru⟩ := rv.one
        have rk : Rp g.K F y k.d := by
          cases ry with
          | dat r => exact r
        have z := isKV_val q k
        refine d_get1 hu I' (dic_get dh s'.ex rk rfl) ru fun w' s2 I2 rw' => ⟨_, H', I2, rw', ?_⟩
        cases hl : lookW kvs k with
        | none => rw [hl] at z p; rw [z]; exact p ρ F H' _ (Grow.refl _ _) s' (.dat .non)
        | some w => rw [hl] at z p; obtain ⟨v, h1, h2⟩ := z; rw [h1]; exact p ρ F H' _ (Grow.refl _ _) s' h2
      · exact p.elim
    · exact p.elim
  · rename_i kvs d yw hd
    obtain ⟨y, y2, rfl, ry, ry2⟩ := all_two l
    split at p
    · rename_i k hk
      split at p
      · rename_i hc
        have e := dkey_eq hk
        subst e
        obtain ⟨H', I', s', a, vs, rfl, dh, q⟩ := dic_ready I s r hd hc
        obtain rfl : v = Value.ref a := rx
        cases rv with
        | cons ru rv =>
          obtain ⟨u2, rfl, ru2⟩ := Vals.one rv
          have rk : Rp g.K F y k.d := by
            cases ry with
            | dat r => exact r
          have z := isKV_val q k
          refine d_get2 hu I' (dic_get dh s'.ex rk rfl) ru ru2 fun w' s2 I2 rw' => ⟨_, H', I2, rw', ?_⟩
          cases hl : lookW kvs k with
          | none => rw [hl] at z p; rw [z]; exact p ρ F H' _ (Grow.refl _ _) s' ry2
          | some w => rw [hl] at z p; obtain ⟨v, h1, h2⟩ := z; rw [h1]; exact p ρ F H' _ (Grow.refl _ _) s' h2
      · exact p.elim
    · exact p.elim
  · exact p.elim
end
end Rf

set_option maxHeartbeats 4000000
namespace Rf
open PySem L2 PyProof.Rows

/-! ### frames that pop -/
section
variable {g : Gx} {K : PySem.W.Frag} {bs : List Nat} {ρ : List Addr} {F N H : Hp} {S : Store}
mutual
theorem Is.und : ∀ {w : W} {v : V}, Is K ρ F v w → w.und ρ.length = true
  | .dat _, _, _ => rfl
  | .loc n, _, h => by
    cases h with
    | loc r => simp [W.und]; exact (List.getElem?_eq_some_iff.mp r).1
  | .tw ws, _, h => by
    cases h with
    | tw _ r => exact IsAll.und r
  | .lw ws, _, h => by
    cases h with
    | lw _ r => exact IsAll.und r
  | .kt _, _, _ => rfl
theorem IsAll.und : ∀ {ws : List W} {vs : List V}, IsAll K ρ F vs ws → W.undAll ρ.length ws = true
  | [], _, _ => rfl
  | w :: ws, _, h => by
    cases h with
    | cons a b => simp [W.undAll, Is.und a, IsAll.und b]
end
mutual
theorem Is.pop {b : Nat} : ∀ {w : W} {v : V}, Is K ρ F v w → w.und b = true → Is K (ρ.take b) F v w
  | .dat _, _, h, _ => by
    cases h with
    | dat r => exact .dat r
  | .loc n, _, h, u => by
    cases h with
    | loc r =>
      simp [W.und] at u
      exact .loc (by rw [List.getElem?_take_of_lt u]; exact r)
  | .tw ws, _, h, u => by
    cases h with
    | tw s r => exact .tw s (IsAll.pop r (by simpa [W.und] using u))
  | .lw ws, _, h, u => by
    cases h with
    | lw s r => exact .lw s (IsAll.pop r (by simpa [W.und] using u))
  | .kt ds, _, h, u => by
    cases h with
    | kt s c d r => exact .kt s c d r
theorem IsAll.pop {b : Nat} : ∀ {ws : List W} {vs : List V}, IsAll K ρ F vs ws → W.undAll b ws = true → IsAll K (ρ.take b) F vs ws
  | [], _, h, _ => by cases h; exact .nil
  | w :: ws, _, h, u => by
    cases h with
    | cons x y =>
      simp [W.undAll] at u
      exact .cons (Is.pop x u.1) (IsAll.pop y u.2)
end
theorem IsKV.und : ∀ {ws : List (PyData × W)} {vs : List (PyData × V)}, IsKV K ρ F vs ws → (ws.all fun p => p.2.und ρ.length) = true
  | _, _, .nil => rfl
  | _, _, .cons a b => by simp [List.all_cons, a.und]; simpa using IsKV.und b
theorem IsFs.und : ∀ {ws : List (Str × W)} {vs : List (Str × V)}, IsFs K ρ F vs ws → (ws.all fun p => p.2.und ρ.length) = true
  | _, _, .nil => rfl
  | _, _, .cons a b => by simp [List.all_cons, a.und]; simpa using IsFs.und b
theorem IsKV.pop {b : Nat} : ∀ {ws : List (PyData × W)} {vs : List (PyData × V)}, IsKV K ρ F vs ws → (ws.all fun p => p.2.und b) = true → IsKV K (ρ.take b) F vs ws
  | _, _, .nil, _ => .nil
  | _, _, .cons a c, u => by
    rw [List.all_cons, Bool.and_eq_true] at u
    exact .cons (a.pop u.1) (IsKV.pop c u.2)
theorem IsFs.pop {b : Nat} : ∀ {ws : List (Str × W)} {vs : List (Str × V)}, IsFs K ρ F vs ws → (ws.all fun p => p.2.und b) = true → IsFs K (ρ.take b) F vs ws
  | _, _, .nil, _ => .nil
  | _, _, .cons a c, u => by
    rw [List.all_cons, Bool.and_eq_true] at u
    exact .cons (a.pop u.1) (IsFs.pop c u.2)
theorem CellOk.und {a : Addr} {c : Cell} (h : CellOk g ρ F H a c) : c.und ρ.length = true := by
  cases c with
  | lst ws => obtain ⟨vs, _, l⟩ := h; exact l.und
  | dic ws => rcases h with ⟨_, _, l⟩ | ⟨_, _, l⟩ <;> exact l.und
  | ins c fs => obtain ⟨_, _, _, l⟩ := h; exact l.und
theorem CellOk.pop {a : Addr} {c : Cell} {b : Nat} (h : CellOk g ρ F H a c) (u : c.und b = true) : CellOk g (ρ.take b) F H a c := by
  cases c with
  | lst ws => obtain ⟨vs, e, l⟩ := h; exact ⟨vs, e, l.pop u⟩
  | dic ws =>
    rcases h with ⟨k, e, l⟩ | ⟨k, e, l⟩
    · exact .inl ⟨k, e, l.pop u⟩
    · exact .inr ⟨k, e, l.pop u⟩
  | ins c fs => obtain ⟨d, k, e, l⟩ := h; exact ⟨d, k, e, l.pop u⟩
theorem Sim.pushB (s : Sim g bs ρ F N S H) : Sim g (S.length :: bs) ρ F N S H :=
  ⟨s.len, s.nd, s.ex, s.fr, s.cell, s.hid, s.nf, s.nl, fun b hb => by
    rcases List.mem_cons.mp hb with h | h
    · subst h
      refine ⟨Nat.le_refl _, fun k c hk e => ?_⟩
      have hk' : k < ρ.length := by rw [s.len]; exact hk
      have := (s.cell k c ρ[k] e (List.getElem?_eq_getElem hk')).und
      rwa [s.len] at this
    · exact s.bot b h⟩
theorem Sim.dropB {b : Nat} (s : Sim g (b :: bs) ρ F N S H) : Sim g bs ρ F N S H := ⟨s.len, s.nd, s.ex, s.fr, s.cell, s.hid, s.nf, s.nl, fun b hb => s.bot b (List.mem_cons_of_mem _ hb)⟩
theorem Sim.pop {b : Nat} (s : Sim g (b :: bs) ρ F N S H) (hb : ∀ c ∈ bs, c ≤ b) : Sim g bs (ρ.take b) F N (S.take b) H := by
  obtain ⟨b1, b2⟩ := s.bot b (List.mem_cons_self ..)
  have hsub : ∀ a ∈ ρ.take b, a ∈ ρ := fun a ha => List.mem_of_mem_take ha
  refine ⟨by simp [s.len], s.nd.sublist (List.take_sublist ..), s.ex, fun a ha => s.fr a (hsub a ha), fun n c a e1 e2 => ?_, s.hid, fun a o e => ⟨(s.nf a o e).1, fun h => (s.nf a o e).2 (hsub a h)⟩, s.nl, fun c hc => ?_⟩
  · have hn : n < b := by
      have := (List.getElem?_eq_some_iff.mp e1).1
      simp at this; omega
    rw [List.getElem?_take_of_lt hn] at e1 e2
    exact (s.cell n c a e1 e2).pop (b2 n c hn e1)
  · obtain ⟨c1, c2⟩ := s.bot c (List.mem_cons_of_mem _ hc)
    have := hb c hc
    refine ⟨by simp; omega, fun k x hk e => c2 k x hk ?_⟩
    rw [List.getElem?_take_of_lt (by omega)] at e
    exact e
end
abbrev FnT := List Nat → List W → Store → Out W
def popR (b : Nat) : Out W → Out W
  | .ok w S => if w.und b = true then .ok w (S.take b) else .ok w S
  | .ex c ws S => if W.undAll b ws = true then .ex c ws (S.take b) else .ex c ws S
  | .stuck => .stuck
def SO.out : SO → Out W
  | .nx _ S => .ok .non S
  | .rt w S => .ok w S
  | .ex c ws _ S => .ex c ws S
  | _ => .stuck
def startE (n : Nat) (ws : List W) : Env := ws.map some ++ List.replicate (n - ws.length) none
/-- a def of n names, the first p of them parameters -/
def fnM (n p : Nat) (m : MS) : FnT := fun bs ws S => if ws.length = p then popR S.length (m (S.length :: bs) (startE n ws) S).out else .stuck
def spF (g : Gx) (f : FnT) : Sp := fun vs H Q E => ∃ bs ρ F N S ws, Sim g bs ρ F N S H ∧ IsAll g.K ρ F vs ws ∧ Post g (fun c d _ H => E c d H) (RW g) bs ρ F N [] Q (f bs ws S)
section
variable {g : Gx} {B : WX} {bs : List Nat} {ρ : List Addr} {F N H : Hp} {S : Store} {σ : L2.St}
theorem EnvR.start {n : Nat} {N' : List Str} (hn : N'.length = n) {vs : List V} {ws : List W} (h : IsAll g.K ρ F vs ws) : EnvR g ρ F (start N' vs) (startE n ws) := by
  subst hn
  have hl := h.len
  refine ⟨by simp [L2.start, startE, hl], fun i w hi => ?_⟩
  unfold startE at hi
  by_cases hk : i < ws.length
  · rw [List.getElem?_append_left (by simpa using hk), List.getElem?_map] at hi
    cases hw : ws[i]? with
    | none => rw [hw] at hi; cases hi
    | some w' =>
      rw [hw] at hi
      cases hi
      obtain ⟨v, hv, r⟩ := h.get hw
      refine ⟨v, ?_, r⟩
      unfold L2.start
      rw [List.getElem?_append_left (by simp [hl]; exact hk), List.getElem?_map, hv]; rfl
  · rw [List.getElem?_append_right (by simpa using Nat.le_of_not_lt hk)] at hi
    rw [List.getElem?_replicate] at hi
    split at hi
    · cases hi
    · cases hi
theorem grow_take {b : Nat} {ρ' : List Addr} {F' : Hp} (gr : Grow ρ F ρ' F') (hb : ρ.length = b) : Grow ρ F (ρ'.take b) F' := by
  obtain ⟨⟨t, e⟩, x⟩ := gr
  subst e hb
  exact ⟨⟨[], by simp⟩, x⟩
/-- a body's end, its frame popped -/
theorem post_pop {Q : VK} {E : XK} {o : SO} (hS : ρ.length = S.length) (hb : ∀ c ∈ bs, c ≤ S.length) (h : Post g (fun c d _ H => E c d H) (RW g) bs ρ F N [] Q (popR S.length o.out)) :
    PostS g (fun c d _ H => E c d H) (S.length :: bs) ρ F N { nx := fun _ H' => Q .non H', rt := Q } o := by
  cases o with
  | nx e S1 =>
    intro ρ' F' H' σ' gr s _
    have h' : Post g (fun c d _ H => E c d H) (RW g) bs ρ F N [] Q (.ok .non (S1.take S.length)) := h
    exact h' (ρ'.take S.length) F' H' .non (grow_take gr hS) (s.pop hb) (.dat .non)
  | rt w S1 =>
    intro ρ' F' H' v gr s r
    have h' : Post g (fun c d _ H => E c d H) (RW g) bs ρ F N [] Q (if w.und S.length = true then .ok w (S1.take S.length) else .ok w S1) := h
    by_cases hw : w.und S.length = true
    · rw [if_pos hw] at h'
      exact h' (ρ'.take S.length) F' H' v (grow_take gr hS) (s.pop hb) (r.pop hw)
    · rw [if_neg hw] at h'
      exact h' ρ' F' H' v gr s.dropB r
  | bk e S1 => exact h.elim
  | ct e S1 => exact h.elim
  | ex c ws e S1 =>
    intro ρ' F' H' σ' d gr s _ r
    have h' : Post g (fun c d _ H => E c d H) (RW g) bs ρ F N [] Q (if W.undAll S.length ws = true then .ex c ws (S1.take S.length) else .ex c ws S1) := h
    by_cases hw : W.undAll S.length ws = true
    · rw [if_pos hw] at h'
      refine h' (ρ'.take S.length) F' H' d (grow_take gr hS) (s.pop hb) ?_
      cases ws with
      | nil => exact r
      | cons w ws =>
        obtain ⟨a, v, e1, e2, e3⟩ := r
        simp [W.undAll] at hw
        exact ⟨a, v, e1, e2, e3.pop hw.1⟩
    · rw [if_neg hw] at h'
      exact h' ρ' F' H' d gr s.dropB r
  | stuck => exact h.elim
/-- room, and nothing is being printed -/
structure RoomG (k : Nat) (A : Around) : Prop where
  rm : Room k A
  gd : A.guards = some []
theorem RoomG.mono {j k : Nat} {A : Around} (r : RoomG k A) (h : j ≤ k) : RoomG j A := ⟨r.rm.mono h, r.gd⟩
theorem RoomG.deeper {k : Nat} {A : Around} (r : RoomG (k + 1) A) (env : PySem.Env) : RoomG k (A.deeper env) := ⟨r.rm.deeper env, r.gd⟩
variable {P : Program} {w : World} {K : PySem.W.Frag} {mg : Str → Option Value} {base : Heap}
/-- what a def does, called where nothing is being printed -/
structure FnG (P : Program) (w : World) (K : PySem.W.Frag) (mg : Str → Option Value) (base : Heap) (k : Nat) (f : Addr) (fd : FuncData) (ps : List Str) (sp : Sp) : Prop where
  cnt : ∀ vs H Q E, sp vs H Q E → vs.length = ps.length
  go : ∀ (A : Around) (st : List PySem.Env) (s : Shared) (H : Hp) (as : Args) (us : List Value) (vs : List V) (Q : VK) (E : XK), RoomG k A → Env0 P w K mg base A st s H → BindsTo s fd as (ps.zip us) → Vals vs us → sp vs H Q E →
    codeAny (model P w) A (.call (.ref f) as) (CR (L2.CX P w) st P w H s Q E) s
theorem fn_ok {x qual : Str} {st : Stmt} {f : Addr} {fd : FuncData} {N ps : List Str} {k n p : Nat} {m : MS} (Fu : Fun K x qual st f fd) (S : FnScope N ps (defScope st))
    (hbody : ∀ (cdv : Value) (A : Around) (outer : List PySem.Env) (s : Shared) (H : Hp) (E : XK), RoomG k (A.deeper (envOfC qual (defScope st) s.heap.objs.size f cdv)) →
      PSs (cxOf (L2.CX P w) P w K mg base N qual (defScope st) f cdv A outer s H E) (defBody st) (rdS g (fun c d _ H => E c d H) m)) (hn : N.length = n := by rfl) (hp : ps.length = p := by rfl) : FnG P w K mg base (k + 1) f fd ps (spF g (fnM n p m)) := by
  have cnt : ∀ vs H Q E, spF g (fnM n p m) vs H Q E → vs.length = ps.length := fun vs H Q E h => by
    obtain ⟨bs, ρ, F, N', S, ws, s, l, q⟩ := h
    unfold fnM at q
    split at q
    · rename_i hl; rw [l.len, hp]; exact hl
    · exact q.elim
  obtain ⟨oc, od, kV, doc, pm, an, cdv, ct, osl, rfl, lk, hcd⟩ := Fu.ex
  refine ⟨cnt, fun A st1 s H as us vs Q E room e0 bind vals h => ?_⟩
  have hin : K.In s.heap := e0.mod.kin.keeps fun b o z => (e0.bs b o z).1
  have lim : s.heap.NoLimit := e0.mod.nolimit.keeps fun b o z => (e0.bs b o z).1
  have kinds : ∀ y ∈ ps.zip us, (defScope st).names.lookup y.1 = some .local ∨ ((defScope st).names.lookup y.1 = some .cell ∧ ((cellsFrom (s.heap.objs.size + 1) (defScope st).names []).lookup y.1).isSome = true) := fun y hy => by
    obtain ⟨y1, y2⟩ := y
    rcases S.par y1 (List.of_mem_zip hy).1 with z | z
    · exact .inl z
    · exact .inr ⟨z, PySem.W.cellsFrom_some _ _ _ (.inl z)⟩
  refine codeAny_call_function room.rm.depth (hin _ _ lk) rfl S.co S.gen rfl (PySem.W.codeRec_of hin hcd) (bind _ _ _ _ ?_)
  refine wpAny_newFunctionEnv_cells S.kind kinds fun env1 henv s1 new => ?_
  subst henv
  refine ⟨lim.keeps new.toInCall.keep, codeAny_func ?_⟩
  have len := cnt _ _ _ _ h
  obtain ⟨bs, ρ, F, N', S', ws, sim, l, q⟩ := h
  have run := hbody cdv A st1 s H E (room.deeper _)
  have inv : Inv (cxOf (L2.CX P w) P w K mg base N qual (defScope st) f cdv A st1 s H E) [] (start N vs) H s1 := inv_start S room.rm.hd e0 len vals new
  unfold fnM at q
  split at q
  · have hq : rdS g (fun c d _ H => E c d H) m { nx := fun _ H' => Q .non H', rt := Q } (start N vs) H :=
      ⟨S'.length :: bs, ρ, F, N', startE n ws, S', sim.pushB, EnvR.start hn l, post_pop sim.len (fun c hc => (sim.bot c hc).1) q⟩
    refine wpAny_mono (run.run [] s1 (start N vs) H _ inv hq) (fun fl s' done => ?_) fun _ _ z => z
    cases fl with
    | ret u =>
      obtain ⟨v, σ', H', J, rel, z⟩ := done
      exact ⟨v, H', J.os, J.bare, J.base, J.hok, rel, z⟩
    | next =>
      obtain ⟨σ', H', J, z⟩ := done
      exact ⟨V.non, H', J.os, J.bare, J.base, J.hok, rfl, z⟩
    | brk => exact done.choose_spec.choose_spec.2.elim
    | cont => exact done.choose_spec.choose_spec.2.elim
  · exact q.elim
end
section
variable {X : Cx} {g : Gx} {B : WX} {k : Nat} {f : Addr} {fd : FuncData} {ps : List Str} {x : Str} {p pos : Pos} {e : Expr} {es : List Expr} {ms : M (List W)} {ff : FnT}
def mCall (f : FnT) (ms : M (List W)) : M W := fun bs env S => (ms bs env S).bind fun ws S1 => f bs ws S1
theorem post_at {bs : List Nat} {ρ : List Addr} {F N : Hp} {σ : L2.St} {Q : VK} {o : Out W} (h : Post g B (RW g) bs ρ F N σ Q o) : Post g (fun c d _ H => WE B σ c d H) (RW g) bs ρ F N [] Q o := by
  cases o with
  | ok w S => exact h
  | ex c ws S => exact h
  | stuck => exact h
/-- a call of such a def -/
theorem pe_callG {sp : Sp} {E : L2.St → XK} {t : TA} (Fo : FnG X.prog X.w X.K X.mg X.base k f fd ps sp) (room : RoomG k X.A) (hg : Gl X x) (hm : X.mg x = some (.ref f)) (hk : PySem.W.keepIn X.K (.ref f) = true) (bind : Binds X.K fd ps []) (out : ∀ σ, PassesAt (L2.CX X.prog X.w) X σ (E σ))
    (args : PA X (e :: es) t) (hdb : (x == ("__debug__" : Str)) = false) (he : starEach (e :: es) X.env = (false, eval e X.env) :: starEach es X.env) (hpl : (backTo pos (starEach es X.env)).any (·.1) = false) :
    PE X (.Call (.Name x p) (e :: es) [] pos) (fun σ H Q => t σ H fun vs H1 => sp vs H1 Q (E σ)) := by
  refine ⟨fun pins s σ H Q inv h => ?_⟩
  refine wpAny_Call_Name_kw (ld_glob inv hg hm ?_ hdb)
  refine PySem.W.callWith_K (h₀ := X.base) inv.ok.mod.kin hk (thn (args.run pos pins s σ H _ inv h) fun us s1 told => ?_) he hpl
  obtain ⟨vs, H1, inv1, rel, q⟩ := told
  refine ⟨inv1.kIn, wpAny_call ?_⟩
  have len : us.length = ps.length := rel.length.symm.trans (Fo.cnt _ _ _ _ q)
  have b := bind s1 us inv1.kIn (by simpa using len)
  rw [List.append_nil] at b
  refine codeAny_mono (Fo.go X.A X.stack s1 H1 ⟨us, []⟩ us vs Q (E σ) room inv1.env0 b rel q) fun r s' done => ?_
  cases r with
  | error ex => exact out σ pins H1 s1 ex s' inv1 done
  | ok fl =>
    cases fl with
    | ret u => exact inv1.after done
    | next => exact done.elim
    | brk => exact done.elim
    | cont => exact done.elim
theorem re_call (tk : Takes X B) (Fo : FnG X.prog X.w X.K X.mg X.base k f fd ps (spF g ff)) (hr : RoomG k X.A) (hg : Gl X x) (hm : X.mg x = some (.ref f)) (hk : PySem.W.keepIn X.K (.ref f) = true) (hb : Binds X.K fd ps [])
    (ha : PA X (e :: es) (rdA g B ms)) (hdb : (x == ("__debug__" : Str)) = false := by decide) (he : starEach (e :: es) X.env = (false, eval e X.env) :: starEach es X.env := by rfl) (hpl : (backTo pos (starEach es X.env)).any (·.1) = false := by rfl) :
    PE X (.Call (.Name x p) (e :: es) [] pos) (rd g B (mCall ff ms)) := (pe_callG Fo hr hg hm hk hb (passAt tk) ha hdb he hpl).imp fun σ H Q ⟨bs, ρ, F, N, env, S, s, e, p⟩ => by
  refine ⟨bs, ρ, F, N, env, S, s, e, (Post.bind (R1 := RWs g) p).imp fun vs H1 ⟨ρ1, F1, ws, S1, g1, s1, r1, p1⟩ => ?_⟩
  exact ⟨bs, ρ1, F1, N, S1, ws, s1, r1, post_at p1⟩
end
end Rf

set_option maxHeartbeats 4000000
namespace Rf
open PySem L2 PyProof.Rows

/-! ### what is walked, by the value -/
def ItR (X : Cx) (tg : Expr) (r : V → Hp → (It → Hp → Prop) → Prop) : Prop :=
  ∀ (pins : List (Addr × Obj)) (s : Shared) (σ : L2.St) (H : Hp) (x : V) (v : Value) (R : It → Hp → Prop), Inv X pins σ H s → RelV x v → r x H R → wpAny (model X.prog X.w) X.A (pyIter v) (PIE X pins σ tg R) X.xe s
theorem ItR.or {X : Cx} {tg : Expr} {r r' : V → Hp → (It → Hp → Prop) → Prop} (h : ItR X tg r) (h' : ItR X tg r') : ItR X tg (fun x H R => r x H R ∨ r' x H R) := by
  intro pins s σ H x v R I rx q
  rcases q with q | q
  · exact h pins s σ H x v R I rx q
  · exact h' pins s σ H x v R I rx q
theorem pi_it {X : Cx} {tg l : Expr} {tl : TE} {r : V → Hp → (It → Hp → Prop) → Prop} (hr : ItR X tg r) (hl : PE X l tl) : PI X tg l (fun σ H R => tl σ H fun x H1 => r x H1 R) := by
  refine ⟨fun pins s σ H R I h => ?_⟩
  exact thn (hl.run pins s σ H _ I h) fun v s1 ⟨x, H1, I1, r1, q1⟩ => hr pins s1 σ H1 x v R I1 r1 q1
section
variable {X : Cx} {tg : Expr}
theorem it_list : ItR X tg (fun x H R => ∃ a, x = .ref a ∧ (∃ xs, SqL X.K H a xs) ∧ R (Itl X.K a) H) := by
  intro pins s σ H x v R I rx q
  obtain ⟨a, rfl, ⟨xs, hq⟩, q⟩ := q
  cases rx
  obtain ⟨its, rv, p, hz⟩ := I.list hq
  exact wpAny_pyIter_list p.isList ⟨s.heap.objs.size, [s.heap.objs.size], _, _, H, rfl, I.kept (t' := s.toks) fun _ _ z => Heap.get?_push_of_some _ z, turn_list a _, ⟨_, Heap.get?_push_size _ rfl, rfl, rfl⟩, fun c hc => by
    have z : c = s.heap.objs.size := by simpa using hc
    rw [z]; exact I.fpOk (Nat.le_refl _) (I.hok.fresh (Nat.le_refl _)), q⟩
theorem it_tup : ItR X tg (fun x H R => ∃ a, x = .ref a ∧ (∃ xs, SqT X.K H a xs) ∧ R (Itt X.K a) H) := by
  intro pins s σ H x v R I rx q
  obtain ⟨a, rfl, ⟨xs, hq⟩, q⟩ := q
  cases rx
  obtain ⟨its, rv, p, hz⟩ := I.tuple hq
  exact wpAny_pyIter_tuple (show s.heap.IsTuple a its.toArray from p) ⟨s.heap.objs.size, [s.heap.objs.size], _, _, H, rfl, I.kept (t' := s.toks) fun _ _ z => Heap.get?_push_of_some _ z, turn_tuple a _, ⟨_, Heap.get?_push_size _ rfl, rfl, rfl⟩, fun c hc => by
    have z : c = s.heap.objs.size := by simpa using hc
    rw [z]; exact I.fpOk (Nat.le_refl _) (I.hok.fresh (Nat.le_refl _)), q⟩
variable {g : Gx} {B : WX} {a : Expr} {ma : M W}
def iterA (S : Store) (w : W) : Option Iter := match iterT w with
  | some it => some it
  | none => iterL S w
def mIt (m : M W) : M Iter := fun bs env S => (m bs env S).bind fun w S1 => match iterA S1 w with
  | some it => .ok it S1
  | none => .stuck
/-- a tuple or a list -/
theorem ri_any (hK : g.K = X.K) (h : PE X a (rd g B ma)) : PI X tg a (rdI g B (mIt ma)) := (pi_it (it_tup.or it_list) h).imp fun σ H R ⟨bs, ρ, F, N, env, S, s, e, p⟩ => by
  refine ⟨bs, ρ, F, N, env, S, s, e, (Post.iter (R := RW g) p).imp fun x H1 ⟨ρ1, F1, wx, S1, g1, s1, r1, p1⟩ => ?_⟩
  rw [← hK]
  unfold iterA at p1
  cases hw : tupOf wx with
  | some ws =>
    have e1 : iterT wx = some (.items ws) := by unfold iterT; rw [hw]; rfl
    rw [e1] at p1
    obtain ⟨a, vs, rfl, q, l⟩ := tup_of r1 hw
    exact .inl ⟨a, rfl, ⟨vs, Same.sqT s1.ex q⟩, p1 ρ1 F1 H1 _ (Grow.refl _ _) s1 (walk_tup q l)⟩
  | none =>
    have e1 : iterT wx = none := by unfold iterT; rw [hw]; rfl
    rw [e1] at p1
    right
    unfold iterL at p1
    cases wx with
    | dat d =>
      cases d <;> try exact p1.elim
      cases r1 with
      | dat r => cases r with
        | lst q r => exact ⟨_, rfl, ⟨_, SqL.of (s1.ex _ _ q)⟩, p1 ρ1 F1 H1 _ (Grow.refl _ _) s1 (walk_lst (SqL.of q) r.isAll)⟩
    | lw ws => cases r1 with
      | lw q r => exact ⟨_, rfl, ⟨_, s1.ex.seq q⟩, p1 ρ1 F1 H1 _ (Grow.refl _ _) s1 (walk_lst q r)⟩
    | tw ws => exact p1.elim
    | kt ws => exact p1.elim
    | loc n =>
      cases hc : S1[n]? with
      | none => simp only [hc] at p1; exact p1.elim
      | some c =>
        cases c with
        | lst ws =>
          simp only [hc] at p1
          cases r1 with
          | loc hn =>
            obtain ⟨vs, e, l⟩ := s1.cell n _ _ hc hn
            exact ⟨_, rfl, ⟨vs, SqL.of e⟩, p1 ρ1 F1 H1 _ (Grow.refl _ _) s1 (walk_cell hn)⟩
        | dic _ => simp only [hc] at p1; exact p1.elim
        | ins _ _ => simp only [hc] at p1; exact p1.elim
/-- a global of the module -/
theorem re_globE {x : Str} {d : PyData} {v : V} {pos : Pos} (hg : Gl X x) (hm : ∃ u, X.mg x = some u ∧ RelV v u) (hr : ∀ F, Rp g.K F v d) (hd : (x == ("__debug__" : Str)) = false := by decide) : PE X (.Name x pos) (rd g B (mCon d)) := by
  obtain ⟨u, h1, h2⟩ := hm
  exact re_glob hg h1 h2 hr hd
theorem un100 {A : Around} {k : Nat} (h : RoomG k A) : A.units + 100 < cLine := Nat.lt_of_le_of_lt (by omega) h.rm.un
theorem un1 {A : Around} {k : Nat} (h : RoomG k A) : A.units + 1 < cLine := Nat.lt_of_le_of_lt (by omega) h.rm.un
end
end Rf

set_option maxHeartbeats 4000000
namespace Rf
open PySem L2 PyProof.Rows
/-! ### targets that never raise -/
theorem calm_nil (ws : List W) (bs : List Nat) (env : Env) (S : Store) (c : Nat) (us : List W) (S1 : Store) : tNil ws bs env S ≠ .ex c us S1 := by
  cases ws <;> simp [tNil]
theorem calm_name {i : Nat} (w : W) (bs : List Nat) (env : Env) (S : Store) (c : Nat) (us : List W) (S1 : Store) : tName i w bs env S ≠ .ex c us S1 := by simp [tName]
theorem calm_cons {t : TM} {u : TMs} (h : ∀ w bs env S c us S1, t w bs env S ≠ .ex c us S1) (k : ∀ ws bs env S c us S1, u ws bs env S ≠ .ex c us S1) (ws : List W) (bs : List Nat) (env : Env) (S : Store) (c : Nat) (us : List W) (S1 : Store) : tCons t u ws bs env S ≠ .ex c us S1 := by
  cases ws with
  | nil => simp [tCons]
  | cons w r =>
    unfold tCons
    intro e
    cases ht : t w bs env S with
    | ok e1 S2 => simp only [ht, Out.bind_ok] at e; exact k _ _ _ _ _ _ _ e
    | ex c' us' S2 => exact h _ _ _ _ _ _ _ ht
    | stuck => simp [ht] at e
theorem calm_tup {n : Nat} {u : TMs} (k : ∀ ws bs env S c us S1, u ws bs env S ≠ .ex c us S1) (w : W) (bs : List Nat) (env : Env) (S : Store) (c : Nat) (us : List W) (S1 : Store) : tTup n u w bs env S ≠ .ex c us S1 := by
  unfold tTup
  split
  · split
    · exact k _ _ _ _ _ _ _
    · simp
  · simp
end Rf

set_option maxHeartbeats 4000000
namespace Rf
open PySem L2 PyProof.Rows RZ

/-! ### zip, enumerate -/
/-- what an iterator over a sequence stands for; L: a list -/
def RepQ (L : Bool) (g : Gx) (ρ : List Addr) (F : Hp) (it : Iter) (a : Addr) : Prop := ∀ bs ρ' F' N' S' H', Grow ρ F ρ' F' → Sim g bs ρ' F' N' S' H' →
  (∃ vs ws, (if L then SqL g.K H' a vs else SqT g.K H' a vs) ∧ IsAll g.K ρ' F' vs ws ∧ ∀ i, it.next i S' = some ws[i]?) ∨ ∀ i, it.next i S' = none
section
variable {X : Cx} {tg : Expr} {g : Gx} {B : WX} {bs : List Nat} {ρ : List Addr} {F N H : Hp} {S : Store} {a b e : Expr} {ma mb : M W} {ms : M (List W)} {p pos tpos : Pos} {elts : List Expr} {kk : Nat}
theorem RepQ.mono {L : Bool} {it : Iter} {x : Addr} {ρ' : List Addr} {F' : Hp} (r : RepQ L g ρ F it x) (gr : Grow ρ F ρ' F') : RepQ L g ρ' F' it x := fun bs ρ2 F2 N2 S2 H2 g2 s => r bs ρ2 F2 N2 S2 H2 (gr.trans g2) s
theorem rep_tup {w : W} {v : V} {it : Iter} (s : Sim g bs ρ F N S H) (r : Is g.K ρ F v w) (h : iterT w = some it) : ∃ x, v = .ref x ∧ (∃ vs, SqT g.K H x vs) ∧ RepQ false g ρ F it x := by
  unfold iterT at h
  simp only [Option.map_eq_some_iff] at h
  obtain ⟨ws, hw, rfl⟩ := h
  obtain ⟨x, vs, rfl, q, l⟩ := tup_of r hw
  exact ⟨x, rfl, ⟨vs, Same.sqT s.ex q⟩, fun bs ρ' F' N' S' H' gr s' => .inl ⟨vs, ws, Same.sqT s'.ex (Same.sqT gr.ex q), l.mono gr, fun i => rfl⟩⟩
theorem rep_lst {w : W} {v : V} {it : Iter} (s : Sim g bs ρ F N S H) (r : Is g.K ρ F v w) (h : iterL S w = some it) : ∃ x, v = .ref x ∧ (∃ vs, SqL g.K H x vs) ∧ RepQ true g ρ F it x := by
  unfold iterL at h
  cases w with
  | dat d =>
    cases d <;> try cases h
    cases r with
    | dat r => cases r with
      | @lst x vs ds q r => exact ⟨_, rfl, ⟨_, SqL.of (s.ex _ _ q)⟩, fun bs ρ' F' N' S' H' gr s' => .inl ⟨vs, _, SqL.of (s'.ex _ _ (gr.ex _ _ q)), (r.isAll).mono gr, fun i => rfl⟩⟩
  | lw ws =>
    cases h
    cases r with
    | lw q r => exact ⟨_, rfl, ⟨_, s.ex.seq q⟩, fun bs ρ' F' N' S' H' gr s' => .inl ⟨_, ws, s'.ex.seq (gr.ex.seq q), r.mono gr, fun i => rfl⟩⟩
  | tw ws => cases h
  | kt ws => cases h
  | loc n =>
    simp only at h
    split at h
    · rename_i us hS
      cases h
      cases r with
      | loc hn =>
        obtain ⟨vs, e, l⟩ := s.cell n _ _ hS hn
        refine ⟨_, rfl, ⟨vs, SqL.of e⟩, fun bs ρ' F' N' S' H' gr s' => ?_⟩
        have hn' := gr.at hn
        cases hc : S'[n]? with
        | none => exact .inr fun i => by show (match S'[n]? with | some (.lst ws) => some ws[i]? | _ => none : Option (Option W)) = none; rw [hc]
        | some c =>
          cases c with
          | lst ws =>
            obtain ⟨vs, e, l⟩ := s'.cell n _ _ hc hn'
            exact .inl ⟨vs, ws, SqL.of e, l, fun i => by show (match S'[n]? with | some (.lst ws) => some ws[i]? | _ => none : Option (Option W)) = _; rw [hc]⟩
          | dic _ => exact .inr fun i => by show (match S'[n]? with | some (.lst ws) => some ws[i]? | _ => none : Option (Option W)) = none; rw [hc]
          | ins _ _ => exact .inr fun i => by show (match S'[n]? with | some (.lst ws) => some ws[i]? | _ => none : Option (Option W)) = none; rw [hc]
    · cases h
theorem walk_zip {L : Bool} {x y : Addr} {i1 i2 : Iter} (r1 : RepQ L g ρ F i1 x) (r2 : RepQ L g ρ F i2 y) : WalkOk g (if L then Itz g.K x y else ItzT g.K x y) ρ F (.zip i1 i2) := by
  intro bs ρ' F' N' S' H' i gr s
  show match (match i1.next i S', i2.next i S' with
    | some (some x), some (some y) => some (some (mkTup [x, y]))
    | some none, some _ => some none
    | some _, some none => some none
    | _, _ => none : Option (Option W)) with
    | some (some w) => _
    | some none => _
    | none => True
  rcases r1 bs ρ' F' N' S' H' gr s with ⟨vs, ws, q1, l1, e1⟩ | e1
  · rcases r2 bs ρ' F' N' S' H' gr s with ⟨us, zs, q2, l2, e2⟩ | e2
    · rw [e1 i, e2 i]
      cases hw : ws[i]? with
      | none =>
        have hl : vs.length ≤ i := by rw [l1.len]; exact List.getElem?_eq_none_iff.mp hw
        cases hz : zs[i]? <;> (cases L <;> exact ⟨vs, us, q1, q2, .inl hl⟩)
      | some w =>
        cases hz : zs[i]? with
        | none =>
          have hl : us.length ≤ i := by rw [l2.len]; exact List.getElem?_eq_none_iff.mp hz
          cases L <;> exact ⟨vs, us, q1, q2, .inr hl⟩
        | some z =>
          obtain ⟨v, hv, rv⟩ := l1.get hw
          obtain ⟨u, hu, ru⟩ := l2.get hz
          refine ⟨by cases L <;> exact ⟨vs, us, v, u, q1, q2, hv, hu⟩, fun xv H2 h => ?_⟩
          obtain ⟨T, v', u', rfl, hT, rfl, h1, h2⟩ : ∃ T v' u', xv = .ref T ∧ H' T = none ∧ H2 = upd H' T (.tup [v', u']) ∧ vs[i]? = some v' ∧ us[i]? = some u' := by
            cases L
            · obtain ⟨T, v', u', e1, e2, e3, e4, e5⟩ := h; exact ⟨T, v', u', e1, e2, e3, e4 vs q1, e5 us q2⟩
            · obtain ⟨T, v', u', e1, e2, e3, e4, e5⟩ := h; exact ⟨T, v', u', e1, e2, e3, e4 vs q1, e5 us q2⟩
          rw [hv] at h1; cases h1
          rw [hu] at h2; cases h2
          obtain ⟨s', g'⟩ := s.frozen (o := .tup [v, u]) hT
          exact ⟨_, g', s', is_mkTup upd_same (.cons (rv.mono g') (.cons (ru.mono g') .nil))⟩
    · rw [e1 i, e2 i]; cases ws[i]? <;> trivial
  · rw [e1 i]; trivial
def zipO (S : Store) (x y : W) : Option Iter := match iterT x, iterT y with
  | some i, some j => some (.zip i j)
  | none, none => match iterL S x, iterL S y with
    | some i, some j => some (.zip i j)
    | _, _ => none
  | _, _ => none
def mZip (ms : M (List W)) : M Iter := fun bs env S => (ms bs env S).bind fun ws S1 => match ws with
  | [x, y] => match zipO S1 x y with
    | some it => .ok it S1
    | none => .stuck
  | _ => .stuck
theorem ri_zip (hK : g.K = X.K) (hg : Gl X "zip") (hm : X.mg "zip" = none) (ha : PA X [a, b] (rdA g B ms)) (hs : starEach [a, b] X.env = (false, eval a X.env) :: starEach [b] X.env := by rfl) (hpl : (backTo pos (starEach [b] X.env)).any (·.1) = false := by rfl) :
    PI X (.Tuple elts kk tpos) (.Call (.Name "zip" p) [a, b] [] pos) (rdI g B (mZip ms)) := (pi_zipA hg hm ha hs hpl).imp fun σ H R ⟨bs, ρ, F, N, env, S, s, e, p⟩ => by
  refine ⟨bs, ρ, F, N, env, S, s, e, (Post.iter (R := RWs g) p).imp fun x H1 ⟨ρ1, F1, wx, S1, g1, s1, r1, p1⟩ => ?_⟩
  rw [← hK]
  split at p1
  · rename_i w u
    obtain ⟨v, z, rfl, rv, rz⟩ := all_two r1
    split at p1
    · rename_i it hit
      unfold zipO at hit
      split at hit
      · rename_i i j hi hj
        cases hit
        obtain ⟨x, rfl, ⟨vs, q1⟩, w1⟩ := rep_tup s1 rv hi
        obtain ⟨y, rfl, ⟨us, q2⟩, w2⟩ := rep_tup s1 rz hj
        exact ⟨x, y, vs, us, rfl, .inr ⟨q1, q2, p1 ρ1 F1 H1 _ (Grow.refl _ _) s1 (walk_zip (L := false) w1 w2)⟩⟩
      · split at hit
        · rename_i i j hi hj
          cases hit
          obtain ⟨x, rfl, ⟨vs, q1⟩, w1⟩ := rep_lst s1 rv hi
          obtain ⟨y, rfl, ⟨us, q2⟩, w2⟩ := rep_lst s1 rz hj
          exact ⟨x, y, vs, us, rfl, .inl ⟨q1, q2, p1 ρ1 F1 H1 _ (Grow.refl _ _) s1 (walk_zip (L := true) w1 w2)⟩⟩
        · cases hit
      · cases hit
    · exact p1.elim
  · exact p1.elim

/-! ### {} -/
def mDic0 (k : Bool) : M W := fun _ _ S => if k then .ok (.loc S.length) (S ++ [.dic []]) else .ok (.dat (.dict [])) S
theorem re_dic0 {k : Bool} : PE X (.Dict [] [] pos) (rd g B (mDic0 k)) := pe_dnewK.imp fun σ H Q ⟨bs, ρ, F, N, env, S, s, e, p⟩ q hq => by
  cases k with
  | true =>
    obtain ⟨s', gr⟩ := s.newCell (c := .dic []) (o := .dK []) hq (.inl ⟨[], upd_same, .nil⟩)
    refine p _ _ _ _ gr s' (.loc ?_)
    rw [← s.len]; simp
  | false =>
    obtain ⟨s', gr⟩ := s.frozen (o := .dK []) hq
    exact p _ _ _ _ gr s' (.dat (.dicK (kvs := []) upd_same .nil))
end
end Rf

set_option maxHeartbeats 4000000
namespace Rf
open PySem L2 PyProof.Rows

/-! ### sorted(d) of a dict whose keys are tuples of ints -/
def keyI (p : List Key × V) : Option (List Int) := p.1.mapM fun k => match k with
  | .inl i => some i
  | .inr _ => none
section
variable {X : Cx}
/-- the keys with the places where they stand -/
abbrev KP := Addr × List Int
def encP (p : KP) : PyData := .tuple (p.2.map .int)
theorem sortable_KP {bs : List KP} (h : ∀ p ∈ bs, p.2 ≠ []) : PySem.W.Sortable (bs.map encP) := .inl fun d hd => by
  obtain ⟨p, hp, rfl⟩ := List.mem_map.mp hd
  cases e : p.2 with
  | nil => exact absurd e (h p hp)
  | cons x r => exact ⟨.int x, r.map .int, by simp [encP, e]⟩
theorem alike_KP {bs : List KP} : PySem.W.AllAlike (bs.map encP) := PySem.W.AllAlike.of fun b b' => by
  show PySem.W.alikeAll (b.2.map .int) (b'.2.map .int) = true
  exact PySem.W.alike_ints _ _
def rSortDT (X : Cx) : List V → Hp → VK → Prop := fun xs H Q => ∃ (d : Addr) (kvs : List (List Key × V)) (ns : List (List Int)), xs = [V.ref d] ∧ Rd H d (.dT kvs) ∧ kvs.map (·.1) = ns.map (fun n => n.map Sum.inl) ∧ (∀ n ∈ ns, n ≠ []) ∧ ns.length ≤ 100000 ∧
  ∀ (bs : List KP) (p : Addr), bs.map (·.2) = ns.mergeSort (fun a b => !PySem.W.dataLt (.tuple (b.map .int)) (.tuple (a.map .int))) → (∀ q ∈ bs, H q.1 = some (.tup (q.2.map V.int))) → H p = none → Q (.ref p) (upd H p (.lst (bs.map fun q => V.ref q.1)))
theorem rc_sortDT (hc : X.calm = true) (hu : X.A.units + 100 < cLine) : CallR X (.builtin "sorted") (rSortDT X) := by
  intro pins s σ H xs us Q I r h
  obtain ⟨d, kvs, ns, rfl, hd, hks, hne, hz, q⟩ := h
  obtain ⟨u, rfl, rx⟩ := r.one
  cases rx
  obtain ⟨z, hs, ks, pr, o, es, ep, ho, hx, hdt, he, hn⟩ := (show ObjOk X.prog X.w H s.heap d (.dT kvs) from hd.ok I.hok)
  have l1 : es.size = ks.length := size_of_entries he
  have l2 : kvs.length = ks.length := Paired.length pr
  have l3 : kvs.length = ns.length := by simpa using congrArg List.length hks
  refine Calls.call_function_entry PyProof.Rows.kind_sorted PyProof.Rows.plain_sorted PyProof.Rows.entry_sorted (PyProof.Rows.args_sorted1 _) ?_
  unfold Builtin.«sorted»
  refine wpAny_bind (m := checkCount "sorted" 1 1 _) (wpAny_pure ?_)
  refine wpAny_bind (PySem.W.kdu_collect (A := X.A.in1) (kdl_raw hs hx hdt) (I.ok.hd hc) ho (by omega) fun h' tk acc kp it => ?_)
  -- the keys collected
  have ea : acc.toList = ks.map fun x => Value.ref x.2.1 := by
    have hl : acc.toList.length = ks.length := by rw [Array.length_toList, it.1]; exact l1
    apply List.ext_getElem?
    intro j
    rw [List.getElem?_map]
    cases hj : acc.toList[j]? with
    | none =>
      rw [List.getElem?_eq_none (by have := List.getElem?_eq_none_iff.mp hj; omega)]
      rfl
    | some v =>
      obtain ⟨en, hen, hv⟩ := it.2 j v (by rw [← Array.getElem?_toList]; exact hj)
      have qe := entry_at he j
      rw [hen] at qe
      cases hb : ks[j]? with
      | none => rw [hb] at qe; cases qe
      | some b =>
        rw [hb] at qe
        cases qe
        rw [hv]; rfl
  -- the keys as places and ints
  obtain ⟨bs, hb1, hb2, hb3⟩ : ∃ bs : List KP, bs.map (·.2) = ns ∧ acc.toList = bs.map (fun q => Value.ref q.1) ∧ ∀ q ∈ bs, H q.1 = some (.tup (q.2.map V.int)) := by
    rw [ea]
    clear ea it kp he hdt hn l1 l2 l3 z hz hne q hd
    induction pr generalizing ns with
    | nil =>
      cases ns with
      | nil => exact ⟨[], rfl, rfl, by simp⟩
      | cons n ns => simp at hks
    | @cons p x ps xs h t ih =>
      cases ns with
      | nil => simp at hks
      | cons n ns =>
        simp only [List.map_cons, List.cons.injEq] at hks
        obtain ⟨bs, e1, e2, e3⟩ := ih ns hks.2
        refine ⟨(x.2.1, n) :: bs, by simp [e1], by simp [e2], fun q hq => ?_⟩
        rcases List.mem_cons.mp hq with z | z
        · subst z
          have := h.2.1
          rw [hks.1] at this
          rw [this, List.map_map]; rfl
        · exact e3 q z
  have hbl : bs.length = ns.length := by rw [← hb1, List.length_map]
  have hal : acc.toList.length = bs.length := by rw [hb2, List.length_map]
  have hzl : acc.toList.length ≤ sizeLine := by rw [hal, hbl]; exact line5 hz
  have I1 : Inv X pins σ H { s with heap := h', toks := tk } := I.kept kp
  refine wpAny_bind (wpAny_newList ?_ hzl)
  have hoL : (h'.push (seqObj "list" acc.toList.toArray 0)).get? h'.objs.size = some (seqObj "list" acc.toList.toArray 0) := Heap.get?_push_size _ rfl
  have er : ∀ q ∈ bs, ∃ as, Reads (h'.push (seqObj "list" acc.toList.toArray 0)) (Value.ref q.1) (encP q) as ∧ h'.objs.size ∉ as := fun q hq => by
    obtain ⟨_, its, rv, o1, ho1, hc1, n1, hd1⟩ := (show ObjOk X.prog X.w H h' q.1 (.tup (q.2.map V.int)) from I1.hok _ _ (hb3 q hq))
    refine ⟨[], .tuple (Heap.get?_push_of_some _ ho1) hc1 hd1 ?_, by simp⟩
    have : ∀ (ns : List Int) (its : List Value), Vals (ns.map V.int) its → ReadsAll (h'.push (seqObj "list" acc.toList.toArray 0)) its (ns.map .int) [] := by
      intro ns
      induction ns with
      | nil => intro its r; cases r; exact .nil
      | cons n ns ih =>
        intro its r
        rw [List.map_cons] at r
        cases r with
        | cons r1 r2 => obtain ⟨t, rfl⟩ := r1; exact .cons (as := []) (bs := []) (.int n t) (ih _ r2)
    simpa using this q.2 its rv
  have eI : PySem.W.EachIs (fun (v : Value) (q : KP) => v = .ref q.1) acc.toList bs := by
    rw [hb2]
    clear hb1 hb2 hb3 hbl hal er
    induction bs with
    | nil => exact .nil
    | cons q bs ih => exact .cons rfl ih
  have eR : PySem.W.EachIs (fun (v : Value) (q : KP) => ∃ as, Reads (h'.push (seqObj "list" acc.toList.toArray 0)) v (encP q) as ∧ h'.objs.size ∉ as) acc.toList bs := by
    rw [hb2] at er ⊢
    clear hb1 hb2 hb3 hbl hal eI
    generalize h'.push (seqObj "list" (List.map (fun q => Value.ref q.1) bs).toArray 0) = hh at er ⊢
    induction bs with
    | nil => exact .nil
    | cons q bs ih => exact .cons (er q (List.mem_cons_self ..)) (ih fun q hq => er q (List.mem_cons_of_mem _ hq))
  have hdep : ∀ q ∈ bs, X.A.in1.units + 1 + (encP q).depth < cLine := fun q _ => by
    have hi1 : X.A.in1.units = X.A.units + 1 := rfl
    have : (encP q).depth = 1 := by
      show PyData.depth (.tuple (q.2.map .int)) = 1
      have hd := PySem.W.depth_ints q.2
      simp only [PyData.depth, hd]
    rw [this, hi1]; omega
  show wpAny _ _ _ _ _ { s with heap := h'.push (seqObj "list" acc.toList.toArray 0), toks := tk }
  refine wpAny_bind (wpAny_holding (PySem.W.list_sort_data (s := { s with heap := h'.push (seqObj "list" acc.toList.toArray 0), toks := tk }) (a := h'.objs.size) (R := fun (v : Value) (q : KP) => v = .ref q.1) (enc := encP) hoL eI eR alike_KP (sortable_KP fun q hq => hne _ (by rw [← hb1]; exact List.mem_map_of_mem hq)) (by rw [hbl]; exact line5 hz) hdep fun out hlo eo => ?_))
  -- the sorted list as a thing of the heap
  generalize hbs' : bs.mergeSort (PySem.W.dataLe false encP) = bs' at eo
  have hperm : bs'.Perm bs := by rw [← hbs']; exact List.mergeSort_perm ..
  have hout : out = bs'.map fun q => Value.ref q.1 := by
    clear hbs' hperm hlo
    induction eo with
    | nil => rfl
    | cons h _ ih => rw [h, ih]; rfl
  have hord : bs'.map (·.2) = ns.mergeSort (fun a b => !PySem.W.dataLt (.tuple (b.map .int)) (.tuple (a.map .int))) := by
    rw [← hbs', ← hb1]
    exact List.map_mergeSort fun a _ b _ => rfl
  obtain ⟨c', hc'⟩ := PyProof.Rows.sortedHeap_at (vs := acc.toList) (out := out.toArray) hoL
  have rv : Vals (bs'.map fun q => V.ref q.1) out := by
    rw [hout]
    have := vals_refs (bs'.map (·.1))
    rw [List.map_map, List.map_map] at this
    exact this
  have hlen : (bs'.map fun q => V.ref q.1).length ≤ sizeLine := by
    rw [List.length_map, hperm.length_eq, hbl]; exact line5 hz
  refine wpAny_pure ⟨_, rfl, .ref h'.objs.size, upd H h'.objs.size (.lst (bs'.map fun q => V.ref q.1)), I1.laid (t' := tk) (fun b u e => ?_) (Nat.le_refl _) ?_, rfl, q bs' _ hord (fun x hx => hb3 x (hperm.mem_iff.mp hx)) (I1.hok.fresh (Nat.le_refl _))⟩
  · have hlt := Heap.lt_size e
    have : b ≠ h'.objs.size := Nat.ne_of_lt hlt
    rw [PyProof.Rows.sortedHeap_old this (by rw [Heap.size_push]; exact Nat.lt_succ_of_lt hlt)]
    exact Heap.get?_push_of_some _ e
  · exact ⟨hlen, out, c', rv, hc'⟩
end
end Rf

set_option maxHeartbeats 4000000
namespace Rf
open PySem L2 PyProof.Rows

/-! ### tuples of the heap that come to be known -/
section
variable {X : Cx} {g : Gx} {B : WX} {bs : List Nat} {ρ : List Addr} {F N H : Hp} {S : Store}
theorem Sim.absorb {a : Addr} {xs : List V} (s : Sim g bs ρ F N S H) (h : H a = some (.tup xs)) : ∃ F', Grow ρ F ρ F' ∧ Sim g bs ρ F' N S H ∧ F' a = some (.tup xs) := by
  cases hF : F a with
  | some o =>
    have := s.ex a o hF
    rw [h] at this; cases this
    exact ⟨F, Grow.refl _ _, s, hF⟩
  | none =>
    have gr : Grow ρ F ρ (upd F a (.tup xs)) := ⟨⟨[], by simp⟩, same_new hF⟩
    have nr : a ∉ ρ := fun ha => by
      obtain ⟨n, hn, e⟩ := List.mem_iff_getElem.mp ha
      have hl : n < S.length := by rw [← s.len]; exact hn
      have c := s.cell n S[n] a (by simp [hl]) (by rw [List.getElem?_eq_getElem hn, e])
      cases hc : S[n] with
      | lst ws => rw [hc] at c; obtain ⟨_, q, _⟩ := c; rw [h] at q; cases q
      | dic ws => rw [hc] at c; rcases c with ⟨_, q, _⟩ | ⟨_, q, _⟩ <;> (rw [h] at q; cases q)
      | ins k fs => rw [hc] at c; obtain ⟨_, _, q, _⟩ := c; rw [h] at q; cases q
    refine ⟨_, gr, ⟨s.len, s.nd, fun b u e => ?_, fun b hb => ?_, fun n c b e1 e2 => (s.cell n c b e1 e2).mono gr rfl, s.hid, fun b u e => ⟨?_, (s.nf b u e).2⟩, s.nl, s.bot⟩, upd_same⟩
    · by_cases z : b = a
      · subst z; rw [upd_same] at e; cases e; exact h
      · rw [upd_ne z] at e; exact s.ex b u e
    · rw [upd_ne (ne_mem hb nr)]; exact s.fr b hb
    · have z : b ≠ a := fun z => by
        subst z
        obtain ⟨vs, rfl⟩ := s.nl b u e
        have := s.hid b _ e
        rw [h] at this; cases this
      rw [upd_ne z]; exact (s.nf b u e).1
theorem rp_intsT {K : PySem.W.Frag} {a : Addr} {ns : List Int} (h : F a = some (.tup (ns.map V.int))) : Rp K F (.ref a) (.tuple (ns.map .int)) := by
  refine .tup h ?_
  clear h
  induction ns with
  | nil => exact .nil
  | cons n ns ih => exact .cons (.int n) ih
/-- several of them -/
theorem Sim.absorbAll : ∀ {ps : List KP} {F : Hp}, Sim g bs ρ F N S H → (∀ q ∈ ps, H q.1 = some (.tup (q.2.map V.int))) → ∃ F', Grow ρ F ρ F' ∧ Sim g bs ρ F' N S H ∧ IsAll g.K ρ F' (ps.map fun q => V.ref q.1) (ps.map fun q => .dat (.tuple (q.2.map .int)))
  | [], F, s, _ => ⟨F, Grow.refl _ _, s, .nil⟩
  | p :: ps, F, s, h => by
    obtain ⟨F1, g1, s1, e1⟩ := s.absorb (h p (List.mem_cons_self ..))
    obtain ⟨F2, g2, s2, l2⟩ := Sim.absorbAll (ps := ps) s1 fun q hq => h q (List.mem_cons_of_mem _ hq)
    exact ⟨F2, g1.trans g2, s2, .cons (.dat ((rp_intsT e1).mono g2.ex)) l2⟩
/-- the keys as rows of ints, none of them empty -/
def keyRow : PyData → Option (List Int)
  | .tuple ds => match intsD ds with
    | some ns => if ns.isEmpty then none else some ns
    | none => none
  | _ => none
def keyRows : List (PyData × W) → Option (List (List Int))
  | [] => some []
  | p :: ps => match keyRow p.1, keyRows ps with
    | some n, some ns => some (n :: ns)
    | _, _ => none
def rowLe (a b : List Int) : Bool := !PySem.W.dataLt (.tuple (b.map .int)) (.tuple (a.map .int))
/-- sorted(d) -/
def sortDW (k : Bool) (w : W) (S : Store) : Option (W × Store) := match dicOf S w with
  | some ws => match keyRows ws with
    | some ns => if ns.length ≤ 100000 ∧ (isLoc w || !ws.isEmpty) = true then some (newL k ((ns.mergeSort rowLe).map fun n => .dat (.tuple (n.map .int))) S) else none
    | none => none
  | none => none
theorem keyRow_eq {d : PyData} {ns : List Int} (h : keyRow d = some ns) : d = .tuple (ns.map .int) ∧ ns ≠ [] := by
  unfold keyRow at h
  split at h
  · split at h
    · rename_i ds ns' hi
      split at h
      · cases h
      · rename_i he
        cases h
        exact ⟨by rw [intsD_eq hi], fun z => he (by rw [z]; rfl)⟩
    · cases h
  · cases h
theorem kD_ints {ks : List Key} {ns : List Int} (h : ks.map kD = ns.map PyData.int) : ks = ns.map Sum.inl := by
  induction ks generalizing ns with
  | nil =>
    cases ns with
    | nil => rfl
    | cons n ns => simp at h
  | cons k ks ih =>
    cases ns with
    | nil => simp at h
    | cons n ns =>
      simp only [List.map_cons, List.cons.injEq] at h
      rw [List.map_cons, ih h.2]
      cases k with
      | inl i => have := h.1; simp [kD] at this; rw [this]
      | inr x => have := h.1; simp [kD] at this
theorem keyRows_kvs {K : PySem.W.Frag} : ∀ {kvs : List (List Key × V)} {ws : List (PyData × W)} {ns : List (List Int)}, IsKV K ρ F (kvs.map fun p => (.tuple (p.1.map kD), p.2)) ws → keyRows ws = some ns →
    kvs.map (·.1) = ns.map (fun n => n.map Sum.inl) ∧ ∀ n ∈ ns, n ≠ []
  | [], ws, ns, h, e => by
    cases h
    simp [keyRows] at e; subst e
    exact ⟨rfl, by simp⟩
  | p :: kvs, ws, ns, h, e => by
    cases h with
    | @cons _ _ _ w ws r t =>
      simp only [keyRows] at e
      split at e
      · rename_i n ns' h1 h2
        cases e
        obtain ⟨e1, e2⟩ := keyRows_kvs t h2
        obtain ⟨e3, e4⟩ := keyRow_eq h1
        injection e3 with e3
        refine ⟨by rw [List.map_cons, List.map_cons, e1, kD_ints e3], fun m hm => ?_⟩
        rcases List.mem_cons.mp hm with z | z
        · rw [z]; exact e4
        · exact e2 m z
      · cases e
theorem keyRows_kind : ∀ {ws : List (PyData × W)} {ns : List (List Int)}, keyRows ws = some ns → (ws.all fun p => (dkey p.1).any fun k' => kindK k' == kindK (.tup [])) = true
  | [], _, _ => rfl
  | p :: ws, ns, e => by
    simp only [keyRows] at e
    split at e
    · rename_i n ns' h1 h2
      rw [List.all_cons, keyRows_kind h2, Bool.and_true]
      obtain ⟨e3, _⟩ := keyRow_eq h1
      have : p.1 = (DKey.tup (n.map Sum.inl)).d := by rw [e3]; simp [DKey.d, kD, List.map_map, Function.comp_def]
      rw [this, dkey_d]; rfl
    · cases e
def sortDF (k : Bool) : OpN := fun _ ws S => match ws with
  | [w] => sortDW k w S
  | _ => none
theorem rc_sortD (hK : g.K = X.K) (hc : X.calm = true) (hu : X.A.units + 100 < cLine) {k : Bool} : CallR X (.builtin "sorted") (rdN g (sortDF k)) := by
  intro pins sh σ H xs us Q I rx ⟨bs, ρ, F, N, S, ws, s, l, p⟩
  unfold sortDF at p
  split at p
  · rename_i w
    obtain ⟨v, rfl, r⟩ := all_one l
    unfold sortDW at p
    split at p
    · rename_i kvs hd
      split at p
      · rename_i ns hns
        split at p
        · rename_i hz
          obtain ⟨H', I', s', a, vs, rfl, dh, q⟩ := dic_ready (k := .tup []) I s r hd (by unfold dicRdy; rw [keyRows_kind hns, hz.2]; rfl)
          cases dh with
          | @t kvs' e =>
            obtain ⟨e1, e2⟩ := keyRows_kvs q hns
            refine rc_sortDT hc hu pins sh σ H' _ us Q I' rx ⟨a, kvs', ns, rfl, .inl e, e1, e2, hz.1, fun ps x h1 h2 h3 => ?_⟩
            obtain ⟨F2, g2, s2, l2⟩ := s'.absorbAll h2
            refine new_ok s2 h3 ?_ fun ρ' F' H2 v2 gr s3 r3 => p ρ' F' H2 v2 (g2.trans gr) s3 r3
            have : (ps.map fun q => W.dat (.tuple (q.2.map .int))) = (ns.mergeSort rowLe).map fun n => W.dat (.tuple (n.map .int)) := by
              have h1' : ps.map (·.2) = ns.mergeSort rowLe := h1
              rw [← h1', List.map_map]; rfl
            rw [← this]; exact l2
        · exact p.elim
      · exact p.elim
    · exact p.elim
  · exact p.elim
end
end Rf

set_option maxHeartbeats 4000000
namespace Rf
open PySem L2 PyProof.Rows

/-! ### xs[::-1] -/
theorem fm_congr {α β : Type} {f g : α → Option β} : ∀ {l : List α}, (∀ a ∈ l, f a = g a) → l.filterMap f = l.filterMap g
  | [], _ => rfl
  | a :: l, h => by rw [List.filterMap_cons, List.filterMap_cons, h a (List.mem_cons_self ..), fm_congr fun b hb => h b (List.mem_cons_of_mem _ hb)]
theorem pick_back (xs : Array Value) : ((List.range xs.size).filterMap fun (m : Nat) => xs[(((xs.size : Int) - 1) + (m : Int) * (-1)).toNat]?).toArray = xs.toList.reverse.toArray := by
  have e : ∀ m, m < xs.size → xs[(((xs.size : Int) - 1) + (m : Int) * (-1)).toNat]? = xs.toList.reverse[m]? := fun m hm => by
    have z : (((xs.size : Int) - 1) + (m : Int) * (-1)).toNat = xs.size - 1 - m := by omega
    rw [z, List.getElem?_reverse (by simpa using hm)]
    simp
  have : (List.range xs.size).filterMap (fun (m : Nat) => xs[(((xs.size : Int) - 1) + (m : Int) * (-1)).toNat]?) = (List.range xs.size).filterMap fun m => xs.toList.reverse[m]? := fm_congr fun m hm => e m (List.mem_range.mp hm)
  rw [this]
  congr 1
  have hl : xs.size = xs.toList.reverse.length := by simp
  rw [hl]
  generalize xs.toList.reverse = l
  induction l with
  | nil => rfl
  | cons a l ih => simp [List.range_succ_eq_map, List.filterMap_cons, List.filterMap_map, Function.comp_def, ih]
section
variable {prog : Program} {w : World} {A : Around} {E : Value → Shared → Prop} {s : Shared}
theorem applied_back {sl : Addr} {t : Tok} {n : Nat} {Q : Int × Int × Nat → Shared → Prop} (hs : s.heap.IsSliceOf sl .none .none (.int (-1) t)) (h : Q ((n : Int) - 1, -1, n) s) : wpAny (model prog w) A (Builtin.Slice.sliceApplied (.ref sl) (pure (n : Int))) Q E s := by
  obtain ⟨os, ho, hc, hd⟩ := id hs
  unfold Builtin.Slice.sliceApplied Builtin.Slice.sliceFields
  refine wpAny_bind (wpAny_bind (wpAny_field ho hd (x := .none) rfl (wpAny_bind (wpAny_field ho hd (x := .none) rfl (wpAny_bind (wpAny_field ho hd (x := .int (-1) t) rfl (wpAny_pure ?_)))))))
  refine wpAny_bind (HT.slicePart_ (.int (-1) t) ?_)
  show wpAny _ _ (if ((-1 : Int) == 0) = true then _ else _) _ _ s
  rw [if_neg (by decide)]
  refine wpAny_bind (slicePart_none (wpAny_bind (slicePart_none (wpAny_bind (wpAny_pure ?_)))))
  show wpAny _ _ (match Builtin.Slice.sliceAdjust none none (-1) (n : Int) with | (lo, hi) => pure (lo, (-1 : Int), Builtin.Slice.slicePlaces lo hi (-1))) _ _ s
  have e1 : Builtin.Slice.sliceAdjust none none (-1) (n : Int) = ((n : Int) - 1, -1) := by
    unfold Builtin.Slice.sliceAdjust; simp
  have e2 : Builtin.Slice.slicePlaces ((n : Int) - 1) (-1) (-1) = n := by
    unfold Builtin.Slice.slicePlaces
    simp
    omega
  rw [e1]
  show wpAny _ _ (pure ((n : Int) - 1, (-1 : Int), Builtin.Slice.slicePlaces ((n : Int) - 1) (-1) (-1))) _ _ s
  rw [e2]
  exact wpAny_pure h
theorem tuple_back {t sl : Addr} {items : Array Value} {k : Tok} {Q : Value → Shared → Prop} (ht : IsTup s.heap t items) (hs : s.heap.IsSliceOf sl .none .none (.int (-1) k))
    (h : Q (.ref s.heap.objs.size) { s with heap := s.heap.push { cls := .type "tuple", data := .seq items.toList.reverse.toArray } }) (hz : items.size ≤ sizeLine) : wpAny (model prog w) A (getItem (.ref t) (.ref sl)) Q E s := by
  have hok : sizeOk (.seq items.toList.reverse.toArray) := by
    show items.toList.reverse.toArray.size ≤ sizeLine
    simpa using hz
  obtain ⟨os, ho, hc, hd⟩ := id hs
  have hT : s.TypeIs (.ref sl) "slice" := ⟨os, ho, hc⟩
  unfold getItem
  refine wpAny_holding (wpAny_bind (wpAny_sequenceKey ht.typeIs (by decide) ?_))
  refine wpAny_bind (wpAny_callSpecial?_slot (name := Str.ofString "__getitem__") ht.typeIs PyProof.Rows.slot_tuple_getitem (wpAny_call_entry PyProof.Rows.slot_tuple_getitem ht.typeIs entry_tuple_getitem ?_ (args_tuple_getitem _ _)))
  show wpAny _ _ (Builtin.Tuple.tupleItemsOf (.ref t) >>= _) _ _ s
  refine wpAny_bind (tupleItemsOf_ ht (wpAny_bind (wpAny_typeOf hT ?_)))
  rw [if_pos (by decide)]
  refine wpAny_bind (applied_back (n := items.size) hs ?_)
  have hno : ¬ ((((items.size : Int) - 1) == 0 && (-1 : Int) == 1 && items.size == items.size) = true) := by simp
  show wpAny _ _ (if ((((items.size : Int) - 1) == 0 && (-1 : Int) == 1 && items.size == items.size) = true) then _ else _) _ _ s
  rw [if_neg hno, pick_back]
  exact wpAny_bind (m := Builtin.Tuple.tupleExact _) (wpAny_newObj_type (wpAny_pure ⟨_, rfl, wpAny_pure h⟩) hok)
end
section
variable {X : Cx} {g : Gx} {B : WX} {e : Expr} {te : TE} {ma : M W} {i : Nat} {p1 p2 p3 pos : Pos}
theorem pe_back (he : PE X e te) : PE X (.Subscript e (.Slice none none (some (.UnaryOp .USub (.Constant (.int 1) i p1) p2)) p3) pos) (fun σ H Q => te σ H fun x H1 => ∃ a xs, x = .ref a ∧
    ((SqL X.K H1 a xs ∧ ∀ p, H1 p = none → Q (.ref p) (upd H1 p (.lst xs.reverse))) ∨ (SqT X.K H1 a xs ∧ ∀ p, H1 p = none → Q (.ref p) (upd H1 p (.tup xs.reverse))))) := by
  refine ⟨fun pins s σ H Q I h => Subscript_ (thn (he.run pins s σ H _ I h) fun v s1 ⟨x, H1, I1, r1, a, xs, ex, q⟩ => ?_)⟩
  subst ex
  cases r1
  have neg1 : PO X (some (.UnaryOp .USub (.Constant (.int 1) i p1) p2)) (tPart (tUn (rU fun j => .int (-j)) (tC (.int 1)))) := po_some (pe_un un_neg pe_int)
  refine wpAny_Slice ?_
  rw [evalPart_none]
  refine wpAny_pure (wpAny_pure ?_)
  refine thn (neg1.run pins s1 σ H1 (fun o H4 => o = some (-1) ∧ H4 = H1) I1 ⟨1, rfl, -1, rfl, rfl, rfl⟩) fun vs s4 ⟨o, H4, I4, ps, eo, e4⟩ => ?_
  subst eo e4
  cases ps with
  | int _ tk =>
    have hsl : ({ s4 with heap := s4.heap.push { cls := .type "slice", data := .fields #[.none, .none, .int (-1) tk] } } : Shared).heap.IsSliceOf s4.heap.objs.size .none .none (.int (-1) tk) := Heap.IsSliceOf.new ..
    have I5 : Inv X pins σ H4 { s4 with heap := s4.heap.push { cls := .type "slice", data := .fields #[.none, .none, .int (-1) tk] } } := I4.kept (t' := s4.toks) fun _ _ z => Heap.get?_push_of_some _ z
    generalize hs5 : ({ s4 with heap := s4.heap.push { cls := .type "slice", data := .fields #[.none, .none, .int (-1) tk] } } : Shared) = s5 at hsl I5
    rcases q with ⟨hx, q⟩ | ⟨hx, q⟩
    · obtain ⟨its, r, ht, hz⟩ := I5.list hx
      have hl := r.length
      refine tail_any (ops := [.ref a, .ref s4.heap.objs.size]) ht.isList.typeIs (PySem.slot_list_getitem.lookup) ?_ (by with_unfolding_all rfl)
      refine wpAny_getItem_list_slice ht.isList hsl (.none) (.none) (.int (-1) tk) (by decide) ?_ (by rw [List.size_toArray]; omega)
      rw [PySem.W.krv_pick]
      exact ⟨.ref _, _, I5.laid (t' := s5.toks) (o := .lst xs.reverse) (fun _ _ z => Heap.get?_push_of_some _ z) (Nat.le_refl _) ⟨by rw [List.length_reverse]; exact hz, _, 0, r.reverse, Heap.get?_push_size _ rfl⟩, rfl, q _ (I5.hok.fresh (Nat.le_refl _))⟩
    · obtain ⟨its, r, ht, hz⟩ := I5.tuple hx
      have hl := r.length
      refine tail_any (ops := [.ref a, .ref s4.heap.objs.size]) ht.typeIs (PyProof.Rows.slot_tuple_getitem.lookup) ?_ (by with_unfolding_all rfl)
      refine tuple_back ht hsl ?_ (by rw [List.size_toArray]; omega)
      exact ⟨.ref _, _, I5.laid (t' := s5.toks) (o := .tup xs.reverse) (fun _ _ z => Heap.get?_push_of_some _ z) (Nat.le_refl _) ⟨by rw [List.length_reverse]; exact hz, _, r.reverse, IsTup.new _ _⟩, rfl, q _ (I5.hok.fresh (Nat.le_refl _))⟩
def mBack (k : Bool) (m : M W) : M W := fun bs env S => (m bs env S).bind fun w S1 => match tupOf w with
  | some ws => .ok (mkTup ws.reverse) S1
  | none => match lstOf S1 w with
    | some ws => .ok (newL k ws.reverse S1).1 (newL k ws.reverse S1).2
    | none => .stuck
theorem re_back (hK : g.K = X.K) {k : Bool} (he : PE X e (rd g B ma)) : PE X (.Subscript e (.Slice none none (some (.UnaryOp .USub (.Constant (.int 1) i p1) p2)) p3) pos) (rd g B (mBack k ma)) := (pe_back he).imp fun σ H Q ⟨bs, ρ, F, N, env, S, s, e, p⟩ => by
  refine ⟨bs, ρ, F, N, env, S, s, e, (Post.bind (R1 := RW g) p).imp fun x H1 ⟨ρ1, F1, wx, S1, g1, s1, r1, p1⟩ => ?_⟩
  split at p1
  · rename_i ws hw
    obtain ⟨a, vs, rfl, q, l⟩ := tup_of r1 hw
    rw [hK] at q
    exact ⟨a, vs, rfl, .inr ⟨Same.sqT s1.ex q, fun q hq => newT_ok s1 hq l.rev p1⟩⟩
  · split at p1
    · rename_i ws hw
      obtain ⟨a, vs, rfl, q, l⟩ := lst_of s1 r1 hw
      rw [hK] at q
      exact ⟨a, vs, rfl, .inl ⟨q, fun q hq => new_ok s1 hq l.rev p1⟩⟩
    · exact p1.elim
end
end Rf

set_option maxHeartbeats 4000000
namespace Rf
open PySem PySem.Spec L2 PyProof.Rows

/-! ### tuples of which all is known -/
section
variable {X : Cx} {g : Gx} {B : WX}
theorem call_tupK : CallR X (.type "tuple") (fun xs H Q => ∃ p ys, xs = [.ref p] ∧ SqL X.K H p ys ∧ ∀ l o, H l = none → o.cls = .type "tuple" → o.dict = none → Q (.ref l) (upd H l (.frz o (.tup ys)))) := by
  intro pins s σ H xs us Q inv rel told
  obtain ⟨p, ys, rfl, sq, fin⟩ := told
  obtain ⟨u, rfl, ru⟩ := vals1 rel
  cases ru
  obtain ⟨its, items, plain, most⟩ := inv.list sq
  have many := items.length
  refine call_tuple_list plain.isList (fun h' keeps => ?_) (by rw [List.size_toArray]; omega)
  have inv1 : Inv X pins σ H { s with heap := h' } := inv.kept (t' := s.toks) keeps
  have lies : (h'.push { cls := .type "tuple", data := .seq its.toArray }).get? h'.objs.size = some { cls := .type "tuple", data := .seq its.toArray } := Heap.get?_push_size _ rfl
  have inv2 := inv1.laid (a := h'.objs.size) (o := .frz { cls := .type "tuple", data := .seq its.toArray } (.tup ys)) (t' := s.toks) (h' := h'.push { cls := .type "tuple", data := .seq its.toArray })
    (fun b o e => Heap.get?_push_of_some _ e) (Nat.le_refl _) ⟨lies, most, its, items, IsTup.new _ _⟩
  exact ⟨.ref h'.objs.size, _, inv2, rfl, fin _ _ (inv1.hok.fresh (Nat.le_refl _)) rfl rfl⟩
def tupleKF : OpN := fun _ ws S => match ws with
  | [w] => match lstOf S w with
    | some xs => (allDat xs).map fun ds => (.kt ds, S)
    | none => none
  | _ => none
theorem rc_tupleK (hK : g.K = X.K) : CallR X (.type "tuple") (rdN g tupleKF) := by
  intro pins s σ H xs us Q inv rel ⟨bs, ρ, F, N, S, ws, sim, l, p⟩
  unfold tupleKF at p
  split at p
  · rename_i w
    obtain ⟨v, rfl, r2⟩ := all_one l
    cases h1 : lstOf S w with
    | none => rw [h1] at p; exact p.elim
    | some xs =>
      simp only [h1] at p
      cases h2 : allDat xs with
      | none => rw [h2] at p; exact p.elim
      | some ds =>
        rw [h2] at p
        obtain ⟨a, vs, rfl, q1, l1⟩ := lst_of sim r2 h1
        rw [hK] at q1
        refine call_tupK pins s σ H _ us Q inv rel ⟨a, vs, rfl, q1, fun q o hq hc hd => ?_⟩
        obtain ⟨sim', gr⟩ := sim.frozen (o := .frz o (.tup vs)) hq
        exact p _ _ _ _ gr sim' (.kt upd_same hc hd ((l1.dats h2).mono gr.ex))
  · exact p.elim
def tyKT (x : V) (H : Hp) : Prop := ∃ a o vs, x = .ref a ∧ H a = some (.frz o (.tup vs)) ∧ o.cls = .type "tuple" ∧ o.dict = none
theorem ty_kt : TyOk X "tuple" tyKT := by
  intro pins σ H s x v inv rel ty
  obtain ⟨a, o, vs, rfl, e, hc, hd⟩ := ty
  cases rel
  obtain ⟨get, _⟩ := (show ObjOk X.prog X.w H s.heap a (.frz o (.tup vs)) from inv.hok a _ e)
  refine ⟨⟨_, get, hc⟩, fun b z => ?_⟩
  cases z
  exact ⟨_, get, hd⟩
def idxF : OpM := fun _ x ws S => match x, ws with
  | .kt ds, [w] => match viewD S w with
    | some d => if d.plain = true ∧ PyData.plainAll ds = true ∧ SeqAt.shaped (.tuple ds) = true ∧ SeqAt.shaped d = true then (ds.findIdx? fun z => PyData.eqv z d).map fun j => (.int (j : Nat), S) else none
    | none => none
  | _, _ => none
theorem mt_idx (hK : g.K = X.K) (hu : X.A.units + 100 < cLine) : MtR X "tuple.index" (rdMt g idxF) := by
  intro pins s σ H x xs v us Q inv rx rxs ⟨bs, ρ, F, N, S, wx, ws, sim, r1, l, p⟩
  unfold idxF at p
  split at p
  · rename_i ds w
    cases hv : viewD S w with
    | none => rw [hv] at p; exact p.elim
    | some d =>
      simp only [hv] at p
      split at p
      · rename_i ok
        obtain ⟨pd, pds, sds, sd⟩ := ok
        cases hj : ds.findIdx? (fun z => PyData.eqv z d) with
        | none => rw [hj] at p; exact p.elim
        | some j =>
          rw [hj] at p
          obtain ⟨y, rfl, ry⟩ := all_one l
          obtain ⟨u, rfl, ru⟩ := vals1 rxs
          have dp : Dp X.K H y d := hK ▸ view_dp sim ry hv pd
          obtain ⟨bs', read⟩ := Dp.reads inv d y u dp ru
          cases r1 with
          | kt at_ hc hd rp =>
            rename_i a vs o
            cases rx
            have look := sim.ex _ _ at_
            obtain ⟨its, rv, ⟨o', get, hc', n, hdat⟩, many⟩ := inv.tuple (.inl (.inr ⟨o, look⟩) : SqT X.K H a vs)
            obtain ⟨get2, _⟩ := (show ObjOk X.prog X.w H s.heap a (.frz o (.tup vs)) from inv.hok a _ look)
            obtain ⟨as, reads⟩ := Dp.readsAll inv ds _ its (hK ▸ RpAll.dp sim.ex pds rp) rv
            have can : PyData.canLayAll0 ds = true := by simpa [PyData.canLay0] using SeqAt.canLay_of_shaped sds
            have hn : its.length = ds.length := SeqAt.ReadsAll.length ds its as reads
            have hmap : its.map (SeqAt.readOf s.heap) = ds := SeqAt.readsAll_map ds its as can reads
            obtain ⟨hjl, hje, hjn⟩ := List.findIdx?_eq_some_iff_getElem.mp hj
            have item : ∀ (m : Nat) (hm : m < its.toArray.size), SeqAt.readOf s.heap its.toArray[m] = ds[m]'(by simpa [hn] using hm) := fun m hm => by
              have hm' : m < its.length := by simpa using hm
              have e2 : (its.map (SeqAt.readOf s.heap))[m]? = ds[m]? := by rw [hmap]
              rw [List.getElem?_map, List.getElem?_eq_getElem hm', List.getElem?_eq_getElem (by omega)] at e2
              have e3 : SeqAt.readOf s.heap its[m] = ds[m] := Option.some.inj e2
              simpa using e3
            have depth : X.A.units + 1 + min (PyData.depthAll ds) d.depth < cLine := by
              have := SeqAt.depth_of_shaped sd
              omega
            obtain ⟨ocls, odict, odata, oslots⟩ := o'
            simp only at hc' hdat
            subst hc' hdat
            refine call_meets PySem.F.slot_tuple_index ⟨_, get, rfl⟩ PySem.F.entry_tuple_index (PySem.F.args_tuple_index_2 _ _)
              (TI.tuple_indexAt a its.toArray n odict oslots u (fun z => PyData.eqv (SeqAt.readOf s.heap z) d) j (by simpa [hn] using hjl) ?_ ?_)
              ⟨get, SeqAt.items_eqAt (vs := its.toArray) (show ReadsAll s.heap its.toArray.toList ds as from reads) read can (SeqAt.canLay_of_shaped sd) depth, ⟨.int (j : Nat), H, inv.tok _, ⟨_, rfl⟩, p ρ F H _ (Grow.refl _ _) sim (.dat (.int _))⟩⟩
            · rw [item]; exact hje
            · intro m hm hmj
              rw [item]
              simpa using hjn m hmj
      · exact p.elim
  · exact p.elim
def isKt : W → Bool
  | .kt _ => true
  | _ => false
def mMtK (f : OpM) (mo : M W) (ms : M (List W)) : M W := fun bs env S => (mo bs env S).bind fun w S1 => if isKt w = true then (ms bs env S1).bind fun ws S2 => match f bs w ws S2 with
  | some (r, S3) => .ok r S3
  | none => .stuck
  else .stuck
theorem re_mtK {f : OpM} {id : String} {name : Str} {o e : Expr} {es : List Expr} {mo : M W} {ms : M (List W)} {apos cpos : Pos} (hK : g.K = X.K) (pa : PlainAttrs "tuple") (slot : Slot "tuple" name id) (hty : typeOf (.builtin id) = pure (.type "method_descriptor")) (hm : MtR X id (rdMt g f)) (ho : PE X o (rd g B mo)) (ha : PA X (e :: es) (rdA g B ms))
    (hbase : attributeBase o name X.env (eval o X.env) = eval o X.env := by rfl)
    (hfew : ((backTo cpos (starEach (e :: es) X.env)).all (fun x => !x.1) && (backToKw cpos (keywordEach [] X.env)).all (fun x => x.1.isSome) && decide ((e :: es).length + ([] : List Keyword).length + (if ([] : List Keyword).isEmpty then 0 else 1) < 30)) = true := by rfl)
    (hline : (apos.endLine == cpos.line) = true := by rfl) (hs : starEach (e :: es) X.env = (false, eval e X.env) :: starEach es X.env := by rfl) (hplain : (backTo cpos (starEach es X.env)).any (·.1) = false := by rfl) :
    PE X (.Call (.Attribute o name apos) (e :: es) [] cpos) (rd g B (mMtK f mo ms)) := (pe_mG (ty := tyKT) ty_kt pa slot hty hm ho ha hbase hfew hline hs hplain).imp fun σ H Q ⟨bs, ρ, F, N, env, S, s, e, p⟩ => by
  refine ⟨bs, ρ, F, N, env, S, s, e, (Post.bind (R1 := RW g) p).imp fun x H1 ⟨ρ1, F1, wx, S1, g1, s1, r1, p1⟩ => ?_⟩
  split at p1
  · rename_i hw
    refine ⟨?_, bs, ρ1, F1, N, env, S1, s1, e.mono g1, (Post.bind (R1 := RWs g) p1).imp fun xs H2 ⟨ρ2, F2, ws, S2, g2, s2, r2, p2⟩ => ?_⟩
    · cases wx <;> try cases hw
      cases r1 with
      | kt q c d _ => exact ⟨_, _, _, rfl, s1.ex _ _ q, c, d⟩
    · exact ⟨bs, ρ2, F2, N, S2, wx, ws, s2, r1.mono g2, r2, post_op p2⟩
  · exact p1.elim
end
end Rf

set_option maxHeartbeats 4000000
namespace Rf
open PySem PySem.Spec L2 PyProof.Rows

/-! ### dict(t), t a tuple of pairs of which all is known -/
def PrOf (K : PySem.W.Frag) (H : Hp) : List V → List (List Key × V) → Prop := Paired fun v kv => ∃ b p, v = .ref p ∧ SqT K H p [.ref b, kv.2] ∧ H b = some (.tup (kv.1.map kV))
section
variable {X : Cx} {g : Gx} {B : WX}
theorem pr_raw {pins : List (Addr × Obj)} {σ : L2.St} {H : Hp} {s : Shared} (inv : Inv X pins σ H s) : ∀ {vs : List V} {kvs : List (List Key × V)} {its : List Value}, PrOf X.K H vs kvs → Vals vs its →
    ∃ (ts : List Addr) (xs : List (List Key × Addr × Value)), its = ts.map Value.ref ∧ ts.length = xs.length ∧ KT H kvs xs ∧ ∀ (j : Nat) (x : List Key × Addr × Value), xs[j]? = some x → ∃ t, ts[j]? = some t ∧ s.heap.IsTuple t #[.ref x.2.1, x.2.2]
  | _, _, _, .nil, .nil => ⟨[], [], rfl, rfl, .nil, fun j x z => by simp at z⟩
  | _, _, _, .cons (b := kv) h t, .cons r rs => by
    obtain ⟨ts, xs, rfl, hl, kt, at_⟩ := pr_raw inv t rs
    obtain ⟨b, p, rfl, sq, hb⟩ := h
    obtain ⟨two, rv, lies, _⟩ := inv.tuple sq
    obtain ⟨u1, u2, rfl, ru1, ru2⟩ := vals2 rv
    cases r
    cases ru1
    refine ⟨p :: ts, (kv.1, b, u2) :: xs, rfl, by simp [hl], .cons ⟨rfl, hb, ru2⟩ kt, fun j x z => ?_⟩
    cases j with
    | zero =>
      cases z
      exact ⟨p, rfl, lies⟩
    | succ j =>
      obtain ⟨t', z1, z2⟩ := at_ j x (by simpa using z)
      exact ⟨t', by simpa using z1, z2⟩
theorem call_dictK (hc : X.calm = true) (hu : X.A.units + 100 < cLine) : CallR X (.type "dict") (fun us H Q => ∃ a o vs kvs, us = [.ref a] ∧ H a = some (.frz o (.tup vs)) ∧ o.cls = .type "tuple" ∧ o.dict = none ∧ PrOf X.K H vs kvs ∧ (kvs.map (·.1)).Nodup ∧ ∀ p, H p = none → Q (.ref p) (upd H p (.dT kvs))) := by
  intro pins s σ H us vals Q inv rel told
  obtain ⟨a, o, vs, kvs, rfl, look, hcl, hdi, prs, nodup, fin⟩ := told
  obtain ⟨u, rfl, ru⟩ := vals1 rel
  cases ru
  obtain ⟨its, rv, ⟨o', get, hc', n, hdat⟩, many⟩ := inv.tuple (.inl (.inr ⟨o, look⟩) : SqT X.K H a vs)
  obtain ⟨get2, _⟩ := (show ObjOk X.prog X.w H s.heap a (.frz o (.tup vs)) from inv.hok a _ look)
  have eo : o' = o := by rw [get] at get2; exact Option.some.inj get2
  subst eo
  obtain ⟨ts, xs, rfl, hl, kt, at_⟩ := pr_raw inv prs rv
  have l2 : kvs.length = xs.length := Paired.length kt
  have l3 : vs.length = kvs.length := Paired.length prs
  have keys : xs.map (·.1) = kvs.map (·.1) := by
    have go : ∀ {l : List (List Key × V)} {m : List (List Key × Addr × Value)}, KT H l m → m.map (·.1) = l.map (·.1) := fun {l m} q => by
      induction q with
      | nil => rfl
      | cons h t ih => rw [List.map_cons, List.map_cons, ih, h.1]
    exact go kt
  have allk : ∀ x ∈ xs, (tupleKind (mixKind X.prog X.w)).is s.heap x.1 x.2.1 ∧ ∃ ob, s.heap.get? x.2.1 = some ob := by
    have go : ∀ {l : List (List Key × V)} {m : List (List Key × Addr × Value)}, KT H l m → ∀ x ∈ m, (tupleKind (mixKind X.prog X.w)).is s.heap x.1 x.2.1 ∧ ∃ ob, s.heap.get? x.2.1 = some ob := fun {l m} q => by
      induction q with
      | nil => exact fun x hx => nomatch hx
      | cons h t ih =>
        intro x hx
        rcases List.mem_cons.mp hx with rfl | hx
        · have k := key_of inv.hok h.2.1
          rw [h.1] at k
          obtain ⟨ob, _, _, z, _⟩ := id k
          exact ⟨k, ob, z⟩
        · exact ih x hx
    exact go kt
  let ps : List (Value × Value) := xs.map fun x => (Value.ref x.2.1, x.2.2)
  have pl : ps.length = xs.length := List.length_map ..
  have items : PairItems s.heap (ts.map Value.ref).toArray (fun j => ts.getD j 0) ps := by
    refine ⟨by simp [ps, hl], fun j k v z => ?_⟩
    have z' : (xs[j]?).map (fun x => (Value.ref x.2.1, x.2.2)) = some (k, v) := by rw [← List.getElem?_map]; exact z
    obtain ⟨x, hx, e⟩ := Option.map_eq_some_iff.mp z'
    cases e
    obtain ⟨t, ht, lies⟩ := at_ j x hx
    have et : ts.getD j 0 = t := by simp [List.getD, ht]
    show (ts.map Value.ref).toArray[j]? = some (.ref (ts.getD j 0)) ∧ PairAt s.heap (ts.getD j 0) _ _
    rw [et]
    exact ⟨by simp [ht], .inl lies⟩
  have stay : KeysStay (tupleKind (mixKind X.prog X.w)) s.heap s.heap.objs.size [] xs := fun h' keep x hx => by
    obtain ⟨⟨ob, ks, m, z1, z2, z3, z4⟩, _⟩ := allk x hx
    exact ⟨ob, ks, m, keep _ _ (Nat.ne_of_lt (Heap.lt_size z1)) (fun q => nomatch q) z1, z2, z3, z4⟩
  have have_ : PairsHaveH (tupleKind (mixKind X.prog X.w)) ps.length (PairRel ps) xs := by
    refine ⟨pl.symm, fun i k v z => ?_⟩
    have z' : (xs[i]?).map (fun x => (Value.ref x.2.1, x.2.2)) = some (k, v) := by rw [← List.getElem?_map]; exact z
    obtain ⟨x, hx, e⟩ := Option.map_eq_some_iff.mp z'
    cases e
    exact ⟨x.1, x.2.1, hx, rfl⟩
  refine call_dict_pairsH (knd := tupleKind (mixKind X.prog X.w)) (ps := xs) (PairArg.tuple a (ts.map Value.ref).toArray (fun j => ts.getD j 0) ps) (inv.ok.hd hc) (show X.A.units + 1 + 1 < cLine by omega) ⟨⟨o', n, get, hc', hdi, hdat⟩, items⟩ have_ stay (by omega) fun h' tk dict keeps => ?_
  rw [storedAllH_nil_of_nodup xs (by rw [keys]; exact nodup)] at dict
  have notSys : (s.heap.objs.size == sysModules) = false := beq_eq_false_iff_ne.mpr (Nat.ne_of_gt inv.big)
  obtain ⟨od, es, ep, z1, z2, z3, z4, z5, z6⟩ := dict
  have kt2 : KT (upd H s.heap.objs.size (.dT kvs)) kvs xs := KT.keeps kt fun b ys e => by
    rw [upd_ne]
    · exact e
    · obtain ⟨_, _, _, ob, z, _⟩ := (show ObjOk X.prog X.w H s.heap b (.tup ys) from inv.hok b _ e)
      exact Nat.ne_of_lt (Heap.lt_size z)
  have ok : ObjOk X.prog X.w (upd H s.heap.objs.size (.dT kvs)) h' s.heap.objs.size (.dT kvs) := ⟨by omega, notSys, xs, kt2, od, es, ep, z1, z2, z3, z4, z6⟩
  exact ⟨.ref s.heap.objs.size, _, inv.laid (t' := tk) (fun b ob e => keeps b ob (fun q => nomatch q) e) (Nat.le_refl _) ok, rfl, fin _ (inv.hok.fresh (Nat.le_refl _))⟩
/-- a pair of a key that is a tuple, and a datum -/
def pairKD : PyData → Option (List Key × PyData)
  | .tuple [.tuple ks, v] => (keysD ks).map fun k => (k, v)
  | _ => none
def pairsKD : List PyData → Option (List (List Key × PyData))
  | [] => some []
  | d :: ds => match pairKD d, pairsKD ds with
    | some p, some ps => some (p :: ps)
    | _, _ => none
def dictKF : OpN := fun _ ws S => match ws with
  | [.kt ds] => match pairsKD ds with
    | some kvs => if (kvs.map (·.1)).Nodup then some (.dat (.dict (kvs.map fun p => (.tuple (p.1.map kD), p.2))), S) else none
    | none => none
  | _ => none
theorem pairs_pr {K : PySem.W.Frag} {F H : Hp} (e : Same F H) : ∀ {ds : List PyData} {vs : List V} {kds : List (List Key × PyData)}, RpAll K F vs ds → pairsKD ds = some kds →
    ∃ kvs : List (List Key × V), PrOf K H vs kvs ∧ kvs.map (·.1) = kds.map (·.1) ∧ ∀ F', Same F F' → RpKV K F' (kvs.map fun p => (.tuple (p.1.map kD), p.2)) (kds.map fun p => (.tuple (p.1.map kD), p.2))
  | [], _, _, r, h => by
    cases r
    simp only [pairsKD] at h
    cases h
    exact ⟨[], .nil, rfl, fun _ _ => .nil⟩
  | d :: ds, _, _, r, h => by
    cases r with
    | cons r1 r2 =>
      simp only [pairsKD] at h
      split at h
      · rename_i p ps h1 h2
        cases h
        obtain ⟨kvs, pr, ek, rk⟩ := pairs_pr e r2 h2
        unfold pairKD at h1
        split at h1
        · rename_i ks v
          simp only [Option.map_eq_some_iff] at h1
          obtain ⟨k, hk, rfl⟩ := h1
          have := keysD_eq hk
          subst this
          cases r1 with
          | tup q r =>
            cases r with
            | cons ra rb =>
              cases rb with
              | cons rb rc =>
                cases rc
                cases ra with
                | tup qa ra =>
                  rename_i a2 xs2
                  have := rp_keys ra
                  subst this
                  exact ⟨(k, _) :: kvs, .cons ⟨_, _, rfl, SqT.of (e _ _ q), e _ _ qa⟩ pr, by simp [ek], fun F' same => .cons (rb.mono same) (rk F' same)⟩
        · cases h1
      · cases h
theorem rc_dictK (hK : g.K = X.K) (hc : X.calm = true) (hu : X.A.units + 100 < cLine) : CallR X (.type "dict") (rdN g dictKF) := by
  intro pins s σ H xs us Q inv rel ⟨bs, ρ, F, N, S, ws, sim, l, p⟩
  unfold dictKF at p
  split at p
  · rename_i ds
    obtain ⟨v, rfl, r2⟩ := all_one l
    cases h1 : pairsKD ds with
    | none => rw [h1] at p; exact p.elim
    | some kds =>
      simp only [h1] at p
      split at p
      · rename_i nd
        cases r2 with
        | kt at_ c d rp =>
          obtain ⟨kvs, pr, ek, rk⟩ := pairs_pr sim.ex rp h1
          refine call_dictK hc hu pins s σ H _ us Q inv rel ⟨_, _, _, kvs, rfl, sim.ex _ _ at_, c, d, hK ▸ pr, by rw [ek]; exact nd, fun q hq => ?_⟩
          obtain ⟨sim', gr⟩ := sim.frozen (o := .dT kvs) hq
          exact p _ _ _ _ gr sim' (.dat (.dicT upd_same (rk _ gr.ex)))
      · exact p.elim
  · exact p.elim

/-! ### repr -/
def reprD : PyData → Option Str
  | .none => some "None"
  | .bool b => some (if b then "True" else "False")
  | .list ds => if PyData.plain (.list ds) = true ∧ PyData.showable (.list ds) = true ∧ PyData.hasDict (.list ds) = false ∧ PyData.depth (.list ds) ≤ 64 ∧ (PyData.shown (.list ds)).length ≤ 100000 then some (PyData.shown (.list ds)) else none
  | .tuple ds => if PyData.plain (.tuple ds) = true ∧ PyData.showable (.tuple ds) = true ∧ PyData.hasDict (.tuple ds) = false ∧ PyData.depth (.tuple ds) ≤ 64 ∧ (PyData.shown (.tuple ds)).length ≤ 100000 then some (PyData.shown (.tuple ds)) else none
  | _ => none
def reprF : OpN := fun _ ws S => match ws with
  | [w] => match viewD S w with
    | some d => (reprD d).map fun t => (.str t, S)
    | none => none
  | _ => none
theorem dp_repr {pins : List (Addr × Obj)} {s : Shared} {σ : L2.St} {H : Hp} {v : V} {u : Value} {d : PyData} {Q : VK} (hg : X.A.guards = some []) (hu : X.A.units + 100 < cLine) (inv : Inv X pins σ H s) (dp : Dp X.K H v d) (rel : RelV v u) (isRef : ∃ a, v = .ref a)
    (h2 : d.showable = true) (h3 : d.hasDict = false) (h4 : d.depth ≤ 64) (h5 : d.shown.length ≤ 100000) (q : Q (.str d.shown) H) : wpAny (model X.prog X.w) X.A (call (.builtin "repr") [u]) (EP X pins σ Q) X.xe s := by
  obtain ⟨as, read⟩ := Dp.reads inv d v u dp rel
  obtain ⟨a, rfl⟩ := isRef
  cases rel
  exact repr_of_reads' read h2 (fun z => by rw [h3] at z; cases z) hg (by omega) (fun b o e => e) (fun h' t tk keeps => ⟨.str d.shown, H, inv.kept (t' := tk) keeps, ⟨_, rfl⟩, q⟩) (by rw [sizeLine_eq]; omega)
theorem rc_repr (hK : g.K = X.K) (hg : X.A.guards = some []) (hu : X.A.units + 100 < cLine) : CallR X (.builtin "repr") (rdN g reprF) := by
  intro pins s σ H xs us Q inv rel ⟨bs, ρ, F, N, S, ws, sim, l, p⟩
  unfold reprF at p
  split at p
  · rename_i w
    obtain ⟨v, rfl, r2⟩ := all_one l
    obtain ⟨u, rfl, ru⟩ := vals1 rel
    cases h1 : viewD S w with
    | none => rw [h1] at p; exact p.elim
    | some d =>
      simp only [h1] at p
      have fin : ∀ t, reprD d = some t → Q (.str t) H := fun t e => by
        rw [e] at p
        exact p ρ F H _ (Grow.refl _ _) sim (.dat (.str t))
      cases d with
      | none =>
        have dp : Dp X.K H v .none := hK ▸ view_dp sim r2 h1 rfl
        cases dp
        cases ru
        exact PySem.P.repr_of_none ⟨.str "None", H, inv.tok _, ⟨_, rfl⟩, fin _ rfl⟩
      | bool b =>
        have dp : Dp X.K H v (.bool b) := hK ▸ view_dp sim r2 h1 rfl
        cases dp
        cases ru
        exact PySem.P.repr_of_bool ⟨.str (if b then "True" else "False"), H, inv.tok _, ⟨_, rfl⟩, fin _ rfl⟩
      | list ds =>
        by_cases ok : PyData.plain (.list ds) = true ∧ PyData.showable (.list ds) = true ∧ PyData.hasDict (.list ds) = false ∧ PyData.depth (.list ds) ≤ 64 ∧ (PyData.shown (.list ds)).length ≤ 100000
        · obtain ⟨k1, k2, k3, k4, k5⟩ := id ok
          have dp : Dp X.K H v (.list ds) := hK ▸ view_dp sim r2 h1 k1
          exact dp_repr hg hu inv dp ru (by cases dp; exact ⟨_, rfl⟩) k2 k3 k4 k5 (fin _ (by simp only [reprD]; rw [if_pos ok]))
        · exfalso
          simp only [reprD] at p
          rw [if_neg ok] at p
          exact p.elim
      | tuple ds =>
        by_cases ok : PyData.plain (.tuple ds) = true ∧ PyData.showable (.tuple ds) = true ∧ PyData.hasDict (.tuple ds) = false ∧ PyData.depth (.tuple ds) ≤ 64 ∧ (PyData.shown (.tuple ds)).length ≤ 100000
        · obtain ⟨k1, k2, k3, k4, k5⟩ := id ok
          have dp : Dp X.K H v (.tuple ds) := hK ▸ view_dp sim r2 h1 k1
          exact dp_repr hg hu inv dp ru (by cases dp; exact ⟨_, rfl⟩) k2 k3 k4 k5 (fin _ (by simp only [reprD]; rw [if_pos ok]))
        · exfalso
          simp only [reprD] at p
          rw [if_neg ok] at p
          exact p.elim
      | int i => exact p.elim
      | str x => exact p.elim
      | dict x => exact p.elim
  · exact p.elim
end
end Rf

set_option maxHeartbeats 4000000
namespace Rf
open PySem PySem.Spec L2 PyProof.Rows

/-! ### the end: the law's def, called at the script -/
theorem room_top (k : Nat) (h : Room k callerA) : RoomG k callerA := ⟨h, rfl⟩
section
variable {P : Program} {w : World} {K : PySem.W.Frag} {mg mb : Str → Option Value} {k : Nat} {fa a : Addr} {fd : FuncData} {x : Str} {sp : Sp} {top : Shared} {vs : List Value} {ns : List Int}
abbrev Held (top : Shared) : Result → Shared → Prop := fun r t => r = .ok (.ret (.bool true)) ∧ OldK top.heap t.heap ∧ t.os = top.os ∧ AllBare t.gens
/-- from an abstract heap that tracks the script alone -/
theorem end_core (H : Hp) (only : Only H) (sq : SqL K H a (ns.map V.int)) (ok : HOk P w H top.heap) (one : ∀ b, H b ≠ none → b = a) (apart : H a ≠ none → K.lookup a = none)
    (KX : K.In top.heap) (hns : top.heap.Ns mainGlobals mg) (hb : top.heap.Ns builtinsNs mb) (boot : ∀ x : Str, x ≠ "__name__" → mb x = bootBuiltins x) (lim : top.heap.NoLimit) (gens : top.gens = #[])
    (lies : top.heap.get? a = some { cls := .type "list", data := .seq vs.toArray }) (room : Room k callerA)
    (F : ∀ base : Heap, K.In base → base.Ns mainGlobals mg → FnG P w K mg base k fa fd [x] sp) (bind : ∀ (s : Shared) (u : Value), BindsTo s fd ⟨[u], []⟩ [(x, u)])
    (promise : sp [.ref a] H (fun v _ => v = .bl true) fun _ _ _ => False) :
    codeAny (model P w) callerA (.call (.ref fa) ⟨[.ref a], []⟩) (Held top) top := by
  have seen : ∀ {b : Addr} {o : Obj}, top.heap.get? b = some o → H b = none → (hidT top.heap H).get? b = some o := fun e z => hidT_get e z
  have apartD : ∀ {b : Addr} {o : Obj} {es : Array DictEntry} {ep : Nat}, top.heap.get? b = some o → o.data = .dict es ep → H b = none := by
    intro b o es ep e d
    cases z : H b with
    | none => rfl
    | some u =>
      obtain rfl : b = a := one b (by rw [z]; simp)
      rw [lies] at e
      cases e
      exact nomatch (show Data.seq vs.toArray _ = Data.dict es ep from d)
  have names : ∀ {b : Addr} {m : Str → Option Value}, top.heap.Ns b m → (hidT top.heap H).Ns b m := fun q =>
    let ⟨o, es, ep, e, d, r⟩ := q
    ⟨o, es, ep, seen e (apartD e d), d, r⟩
  have KB : K.In (hidT top.heap H) := by
    intro b o e
    refine seen (KX b o e) ?_
    cases z : H b with
    | none => rfl
    | some u =>
      obtain rfl : b = a := one b (by rw [z]; simp)
      rw [apart (by rw [z]; simp)] at e
      cases e
  obtain ⟨mc, l1, l2⟩ := lim
  have modul : Mod K mg (hidT top.heap H) := ⟨KB, names hns, ⟨mb, names hb, boot⟩, ⟨mc, names l1, l2⟩⟩
  have noFrame : ∀ b, b ∈ ([] : List Addr) → False := fun b q => nomatch q
  have e0 : Env0 P w K mg (hidT top.heap H) callerA [] top H := ⟨rfl, modul, fun b o e => of_hidT e, Nat.le_of_eq (hidT_size _ _), trivial, fun b q => (noFrame b q).elim, ok, .of_eq gens⟩
  have ran := (F _ KB (names hns)).go callerA [] top H ⟨[.ref a], []⟩ [.ref a] [.ref a] _ _ (room_top k room) e0 (bind top (.ref a)) (.cons rfl .nil) promise
  refine codeAny_mono ran fun r t done => ?_
  cases r with
  | error e =>
    obtain ⟨_, _, _, _, _, _, _, _, _, _, _, _, _, z⟩ := done
  | ok fl =>
    cases fl with
    | next => exact done.elim
    | brk => exact done.elim
    | cont => exact done.elim
    | ret u =>
      obtain ⟨v, H', os, bare, kept, ok', rel, rfl⟩ := done
      obtain rfl : u = Value.bool true := rel
      refine ⟨rfl, OldK.of_keep fun b o e => ?_, os, bare⟩
      cases z : H b with
      | none => exact kept.keep b o e z (fun q => noFrame b q) (by simp)
      | some u =>
        rcases only b with q | ⟨ob, xs, q⟩
        · rw [z] at q; cases q
        · obtain ⟨e1, _⟩ := ok b _ q
          obtain ⟨e2, _⟩ := ok' b _ (kept.frzs b ob _ q)
          rw [e] at e1
          cases e1
          exact e2
theorem law_end (KX : K.In top.heap) (hns : top.heap.Ns mainGlobals mg) (hb : top.heap.Ns builtinsNs mb) (boot : ∀ x : Str, x ≠ "__name__" → mb x = bootBuiltins x) (lim : top.heap.NoLimit) (gens : top.gens = #[])
    (lies : top.heap.get? a = some { cls := .type "list", data := .seq vs.toArray }) (nums : IntsAre vs ns) (many : ns.length ≤ sizeLine) (room : Room k callerA)
    (F : ∀ base : Heap, K.In base → base.Ns mainGlobals mg → FnG P w K mg base k fa fd [x] sp) (bind : ∀ (s : Shared) (u : Value), BindsTo s fd ⟨[u], []⟩ [(x, u)])
    (promise : ∀ H : Hp, Only H → SqL K H a (ns.map V.int) → sp [.ref a] H (fun v _ => v = .bl true) fun _ _ _ => False) :
    codeAny (model P w) callerA (.call (.ref fa) ⟨[.ref a], []⟩) (Held top) top := by
  have rv := vals_ints nums
  have lv := nums.length
  cases own : K.lookup a with
  | some o =>
    -- the list is one of the module's
    have e := KX a o own
    rw [lies] at e
    cases e
    have only : Only fun _ => none := fun _ => .inl rfl
    have sq : SqL K (fun _ => none) a (ns.map V.int) := .inr ⟨_, vs.toArray, _, own, rfl, rfl, rfl, by rw [List.size_toArray, lv]; exact many, by simpa using rv⟩
    exact end_core (fun _ => none) only sq (fun b u z => nomatch (show (none : Option HO) = some u from z)) (fun b z => absurd rfl z) (fun z => absurd rfl z) KX hns hb boot lim gens lies room F bind (promise _ only sq)
  | none =>
    let H : Hp := fun b => if b = a then some (.frz { cls := .type "list", data := .seq vs.toArray } (.lst (ns.map V.int))) else none
    have at_ : H a = some (.frz { cls := .type "list", data := .seq vs.toArray } (.lst (ns.map V.int))) := if_pos rfl
    have off : ∀ b, b ≠ a → H b = none := fun b z => if_neg z
    have only : Only H := fun b => by
      by_cases z : b = a
      · subst z; exact .inr ⟨_, _, at_⟩
      · exact .inl (off b z)
    have sq : SqL K H a (ns.map V.int) := .inl (.inr ⟨_, at_⟩)
    refine end_core H only sq (fun b u z => ?_) (fun b z => ?_) (fun _ => own) KX hns hb boot lim gens lies room F bind (promise _ only sq)
    · by_cases q : b = a
      · subst q
        rw [at_] at z
        cases z
        exact ⟨lies, by rw [List.length_map]; exact many, vs, _, rv, lies⟩
      · rw [off b q] at z; cases z
    · by_cases q : b = a
      · exact q
      · exact absurd (off b q) z
end
/-- what is left of a law behind its head -/
theorem walk_end {l : PySem.W.OpenLaw} {n k : Nat} {q : Program} {loose : List Str} {XP : (Str → Option Value) → Heap → Prop} {YP : World → Heap → Prop} {d : DefRec} {K : Params → PySem.W.Frag} {sp : World → Sp} {x : Str}
    (hn : l.most = some n) (few : n ≤ sizeLine) (plain : d.params.defaults = []) (room : Room k callerA) (known : ∀ (w : World) (h : Heap), YP w h → (K w.params).In h)
    (F : ∀ (w : World) (mg : Str → Option Value) (fa : Addr) (h : Heap), (K w.params).In h → h.Ns mainGlobals mg → mg d.name = some (.ref fa) →
      ∃ fd : FuncData, (∀ (s : Shared) (u : Value), BindsTo s fd ⟨[u], []⟩ [(x, u)]) ∧ ∀ base : Heap, (K w.params).In base → base.Ns mainGlobals mg → FnG l.prog w (K w.params) mg base k fa fd [x] (sp w))
    (promise : ∀ (w : World) (H : Hp) (a : Addr) (ns : List Int), ns.length ≤ n → (∀ z ∈ ns, Builtin.Int.intBits z ≤ 1048576) → Only H → SqL (K w.params) H a (ns.map V.int) → sp w [.ref a] H (fun v _ => v = .bl true) fun _ _ _ => False) :
    PySem.W.WalkO q loose XP YP l.row.toRowW d [] (fun f vs => PySem.call f vs) :=
  Att.attach_callB hn plain fun w s0 s1 mg mb fa o pm cd doc a vs ns G Y _ _ _ main lies nums len bits gens =>
    let KX := known w _ Y
    let ⟨fd, bind, FF⟩ := F w mg fa _ KX G.T.g main
    law_end KX G.T.g G.T.b G.T.builtins G.T.nolimit gens lies nums (Nat.le_trans len few) room FF bind fun H only sq => promise w H a ns len bits only sq
end Rf

set_option maxHeartbeats 4000000
namespace V
open PySem L2 PyProof.Rows Rf
def top (i : Nat) : Stmt := PySem.Challenge.pw_everycut_k17_whole_rows_told_by_cells.main.body.getD i (.Pass ⟨0, 0, 0, 0⟩)
structure Txt (K : PySem.W.Frag) (mg : Str → Option Value) (a : Nat → Addr) (fd : Nat → FuncData) : Prop where
  c_MAX_CELL : ∃ u, mg "MAX_CELL" = some u ∧ RelV (.int 999999999999999999) u
  b_isinstance : mg "isinstance" = none
  b_bool : mg "bool" = none
  b_int : mg "int" = none
  b_len : mg "len" = none
  b_tuple : mg "tuple" = none
  b_all : mg "all" = none
  c_MOST_KEY : ∃ u, mg "MOST_KEY" = some u ∧ RelV (.int 3) u
  c_MOST_VALUE : ∃ u, mg "MOST_VALUE" = some u ∧ RelV (.int 8) u
  b_range : mg "range" = none
  c_MOST_ROWS : ∃ u, mg "MOST_ROWS" = some u ∧ RelV (.int 2000) u
  c_MOST_TOLD : ∃ u, mg "MOST_TOLD" = some u ∧ RelV (.int 30000) u
  b_abs : mg "abs" = none
  b_max : mg "max" = none
  b_sorted : mg "sorted" = none
  b_zip : mg "zip" = none
  b_dict : mg "dict" = none
  b_list : mg "list" = none
  b_repr : mg "repr" = none
  b_min : mg "min" = none
  f_is_cell : Fun K "is_cell" "is_cell" (top 6) (a 6) (fd 6)
  n_is_cell : Binds K (fd 6) ["value"] []
  g_is_cell : mg "is_cell" = some (.ref (a 6))
  f_are_cells : Fun K "are_cells" "are_cells" (top 7) (a 7) (fd 7)
  n_are_cells : Binds K (fd 7) ["value", "most"] []
  g_are_cells : mg "are_cells" = some (.ref (a 7))
  f_is_key : Fun K "is_key" "is_key" (top 13) (a 13) (fd 13)
  n_is_key : Binds K (fd 13) ["value"] []
  g_is_key : mg "is_key" = some (.ref (a 13))
  f_is_row_value : Fun K "is_row_value" "is_row_value" (top 14) (a 14) (fd 14)
  n_is_row_value : Binds K (fd 14) ["value"] []
  g_is_row_value : mg "is_row_value" = some (.ref (a 14))
  f__is_row : Fun K "_is_row" "_is_row" (top 15) (a 15) (fd 15)
  n__is_row : Binds K (fd 15) ["value"] []
  g__is_row : mg "_is_row" = some (.ref (a 15))
  f__do_ascend : Fun K "_do_ascend" "_do_ascend" (top 16) (a 16) (fd 16)
  n__do_ascend : Binds K (fd 16) ["keys_there"] []
  g__do_ascend : mg "_do_ascend" = some (.ref (a 16))
  f_are_rows : Fun K "are_rows" "are_rows" (top 17) (a 17) (fd 17)
  n_are_rows : Binds K (fd 17) ["value"] []
  g_are_rows : mg "are_rows" = some (.ref (a 17))
  f_check_key : Fun K "check_key" "check_key" (top 18) (a 18) (fd 18)
  n_check_key : Binds K (fd 18) ["key"] []
  g_check_key : mg "check_key" = some (.ref (a 18))
  f_check_rows : Fun K "check_rows" "check_rows" (top 19) (a 19) (fd 19)
  n_check_rows : Binds K (fd 19) ["rows"] []
  g_check_rows : mg "check_rows" = some (.ref (a 19))
  f_cells_of_row : Fun K "cells_of_row" "cells_of_row" (top 20) (a 20) (fd 20)
  n_cells_of_row : Binds K (fd 20) ["key", "value"] []
  g_cells_of_row : mg "cells_of_row" = some (.ref (a 20))
  f_row_cells : Fun K "row_cells" "row_cells" (top 21) (a 21) (fd 21)
  n_row_cells : Binds K (fd 21) ["key", "value"] []
  g_row_cells : mg "row_cells" = some (.ref (a 21))
  f_rows_cells : Fun K "rows_cells" "rows_cells" (top 22) (a 22) (fd 22)
  n_rows_cells : Binds K (fd 22) ["rows"] []
  g_rows_cells : mg "rows_cells" = some (.ref (a 22))
  f__stretch : Fun K "_stretch" "_stretch" (top 23) (a 23) (fd 23)
  n__stretch : Binds K (fd 23) ["cells", "at", "most"] []
  g__stretch : mg "_stretch" = some (.ref (a 23))
  f_rows_in_cells : Fun K "rows_in_cells" "rows_in_cells" (top 24) (a 24) (fd 24)
  n_rows_in_cells : Binds K (fd 24) ["cells"] []
  g_rows_in_cells : mg "rows_in_cells" = some (.ref (a 24))
  f_rows_told : Fun K "rows_told" "rows_told" (top 25) (a 25) (fd 25)
  n_rows_told : Binds K (fd 25) ["cells"] []
  g_rows_told : mg "rows_told" = some (.ref (a 25))
  f__law_vat : Fun K "_law_vat" "_law_vat" (top 27) (a 27) (fd 27)
  n__law_vat : Binds K (fd 27) ["script", "spot"] []
  g__law_vat : mg "_law_vat" = some (.ref (a 27))
  f__law_drop : Fun K "_law_drop" "_law_drop" (top 28) (a 28) (fd 28)
  n__law_drop : Binds K (fd 28) ["vat", "total"] []
  g__law_drop : mg "_law_drop" = some (.ref (a 28))
  f__law_taste : Fun K "_law_taste" "_law_taste" (top 29) (a 29) (fd 29)
  n__law_taste : Binds K (fd 29) ["vat", "items"] []
  g__law_taste : mg "_law_taste" = some (.ref (a 29))
  f__law_cells : Fun K "_law_cells" "_law_cells" (top 30) (a 30) (fd 30)
  n__law_cells : Binds K (fd 30) ["vat", "least", "most"] []
  g__law_cells : mg "_law_cells" = some (.ref (a 30))
  f__law_rows : Fun K "_law_rows" "_law_rows" (top 31) (a 31) (fd 31)
  n__law_rows : Binds K (fd 31) ["vat", "most"] []
  g__law_rows : mg "_law_rows" = some (.ref (a 31))
  f__law_own_cells : Fun K "_law_own_cells" "_law_own_cells" (top 32) (a 32) (fd 32)
  n__law_own_cells : Binds K (fd 32) ["rows"] []
  g__law_own_cells : mg "_law_own_cells" = some (.ref (a 32))
  f__law_stretch : Fun K "_law_stretch" "_law_stretch" (top 33) (a 33) (fd 33)
  n__law_stretch : Binds K (fd 33) ["cells", "at", "most"] []
  g__law_stretch : mg "_law_stretch" = some (.ref (a 33))
  f__law_read : Fun K "_law_read" "_law_read" (top 34) (a 34) (fd 34)
  n__law_read : Binds K (fd 34) ["cells"] []
  g__law_read : mg "_law_read" = some (.ref (a 34))
  f__law_is_cells : Fun K "_law_is_cells" "_law_is_cells" (top 35) (a 35) (fd 35)
  n__law_is_cells : Binds K (fd 35) ["value", "most"] []
  g__law_is_cells : mg "_law_is_cells" = some (.ref (a 35))
  f__law_are_rows : Fun K "_law_are_rows" "_law_are_rows" (top 36) (a 36) (fd 36)
  n__law_are_rows : Binds K (fd 36) ["value"] []
  g__law_are_rows : mg "_law_are_rows" = some (.ref (a 36))
  f__law_near_cells : Fun K "_law_near_cells" "_law_near_cells" (top 37) (a 37) (fd 37)
  n__law_near_cells : Binds K (fd 37) ["vat", "cells"] []
  g__law_near_cells : mg "_law_near_cells" = some (.ref (a 37))
  f__law_near_rows : Fun K "_law_near_rows" "_law_near_rows" (top 38) (a 38) (fd 38)
  n__law_near_rows : Binds K (fd 38) ["vat", "rows"] []
  g__law_near_rows : mg "_law_near_rows" = some (.ref (a 38))
  f__law_right : Fun K "_law_right" "_law_right" (top 39) (a 39) (fd 39)
  n__law_right : Binds K (fd 39) ["vat"] []
  g__law_right : mg "_law_right" = some (.ref (a 39))
  f_law : Fun K "law" "law" (top 40) (a 40) (fd 40)
  n_law : Binds K (fd 40) ["script"] []
  g_law : mg "law" = some (.ref (a 40))
section
variable {P : Program} {w : World} {g : Gx} {mg : Str → Option Value} {base : Heap} {a : Nat → Addr} {fd : Nat → FuncData}
theorem sc_is_cell : FnScope ["value"] ["value"] (defScope (top 6)) := ⟨rfl, rfl, rfl, by decide +kernel, rfl, by decide +kernel, by decide +kernel⟩
def m_is_cell : MS := (sRet (mAndV (mIsi "int" (mVar 0)) (mAndV (mNotV (mIsi "bool" (mVar 0))) (mChain (ordF .le) (ordF .le) (mCon (.int 0)) (mVar 0) (mCon (.int 999999999999999999))))))
def F_is_cell : FnT := fnM 1 1 m_is_cell
theorem ok_is_cell (T : Txt g.K mg a fd) : FnG P w g.K mg base 1 (a 6) (fd 6) ["value"] (spF g F_is_cell) := fn_ok T.f_is_cell sc_is_cell fun cdv A outer s H E hr =>
  (rss_one (rs_ret (re_and rfl (re_isi rfl rfl T.b_isinstance rfl (re_var (i := 0)) rfl T.b_int rfl) (re_and rfl (re_not rfl (re_isi rfl rfl T.b_isinstance rfl (re_var (i := 0)) rfl T.b_bool rfl)) (re_one (re_chain (ro_ord .le rfl (un100 hr)) (ro_ord .le rfl (un100 hr)) re_int (re_var (i := 0)) (re_globE rfl T.c_MAX_CELL fun _ => .int _)))))))
theorem sc_are_cells : FnScope ["value", "most", "cell"] ["value", "most"] (defScope (top 7)) := ⟨rfl, rfl, rfl, by decide +kernel, rfl, by decide +kernel, by decide +kernel⟩
def m_are_cells : MS := (sSeq (sIf (mOr (mNot (mTru (mIsi "tuple" (mVar 0)))) (mB (mBin (ordF .gt) (mCB (un lenW) (mCons (mVar 0) mNil)) (mVar 1)))) (sRet (mCon (.bool false))) sNil) (sRet (mCB (un allF) (mCons (mComp false (mIt (mVar 0)) [2] (tName 2) mYes (mCall F_is_cell (mCons (mVar 2) mNil))) mNil))))
def F_are_cells : FnT := fnM 3 2 m_are_cells
theorem ok_are_cells (T : Txt g.K mg a fd) : FnG P w g.K mg base 2 (a 7) (fd 7) ["value", "most"] (spF g F_are_cells) := fn_ok T.f_are_cells sc_are_cells fun cdv A outer s H E hr =>
  (rss_cons (rs_if (PW.pt (rw_or (rt_not (rt_tru rfl (re_isi rfl rfl T.b_isinstance rfl (re_var (i := 0)) rfl T.b_tuple rfl))) (rw_or1 (rt_cmp (ro_ord .gt rfl (un100 hr)) (re_callB (rc_len rfl) rfl T.b_len rfl (ra_cons (re_var (i := 0)) ra_nil)) (re_var (i := 1)))))) (rss_one (rs_ret re_bl)) rss_nil)
    (rss_one (rs_ret (re_callB (rc_all rfl rfl) rfl T.b_all rfl (ra_cons (re_lc (k := false) rfl sc_are_cells.nd (own := [("cell", 2)]) (blkOk_by (by rfl)) (ri_any rfl (re_var (i := 0))) (fun s H C cl fp => (rc_name (i := 2) sc_are_cells.nd)) (fun s H C cl fp => rts_nil) (fun s H C cl fp => (re_call takes0 (ok_is_cell T) (hr.mono (by decide)) rfl T.g_is_cell T.f_is_cell.kp T.n_is_cell (ra_cons (re_var (i := 2)) ra_nil)))) ra_nil)))))
theorem sc_is_key : FnScope ["value"] ["value"] (defScope (top 13)) := ⟨rfl, rfl, rfl, by decide +kernel, rfl, by decide +kernel, by decide +kernel⟩
def m_is_key : MS := (sRet (mAndV (mCall F_are_cells (mCons (mVar 0) (mCons (mCon (.int 3)) mNil))) (mBin (eqF true) (mVar 0) (mTup mNil))))
def F_is_key : FnT := fnM 1 1 m_is_key
theorem ok_is_key (T : Txt g.K mg a fd) : FnG P w g.K mg base 3 (a 13) (fd 13) ["value"] (spF g F_is_key) := fn_ok T.f_is_key sc_is_key fun cdv A outer s H E hr =>
  (rss_one (rs_ret (re_and rfl (re_call (takes_of rfl rfl rfl rfl) (ok_are_cells T) (hr.mono (by decide)) rfl T.g_are_cells T.f_are_cells.kp T.n_are_cells (ra_cons (re_var (i := 0)) (ra_cons (re_globE rfl T.c_MOST_KEY fun _ => .int _) ra_nil))) (re_one (re_cmp (ro_ne rfl (un100 hr)) (re_var (i := 0)) (re_tup ra_nil))))))
theorem sc_is_row_value : FnScope ["value"] ["value"] (defScope (top 14)) := ⟨rfl, rfl, rfl, by decide +kernel, rfl, by decide +kernel, by decide +kernel⟩
def m_is_row_value : MS := (sRet (mAndV (mCall F_are_cells (mCons (mVar 0) (mCons (mCon (.int 8)) mNil))) (mBin (eqF true) (mVar 0) (mTup mNil))))
def F_is_row_value : FnT := fnM 1 1 m_is_row_value
theorem ok_is_row_value (T : Txt g.K mg a fd) : FnG P w g.K mg base 3 (a 14) (fd 14) ["value"] (spF g F_is_row_value) := fn_ok T.f_is_row_value sc_is_row_value fun cdv A outer s H E hr =>
  (rss_one (rs_ret (re_and rfl (re_call (takes_of rfl rfl rfl rfl) (ok_are_cells T) (hr.mono (by decide)) rfl T.g_are_cells T.f_are_cells.kp T.n_are_cells (ra_cons (re_var (i := 0)) (ra_cons (re_globE rfl T.c_MOST_VALUE fun _ => .int _) ra_nil))) (re_one (re_cmp (ro_ne rfl (un100 hr)) (re_var (i := 0)) (re_tup ra_nil))))))
theorem sc__is_row : FnScope ["value"] ["value"] (defScope (top 15)) := ⟨rfl, rfl, rfl, by decide +kernel, rfl, by decide +kernel, by decide +kernel⟩
def m__is_row : MS := (sRet (mAndV (mIsi "tuple" (mVar 0)) (mAndV (mBin (eqF false) (mCB (un lenW) (mCons (mVar 0) mNil)) (mCon (.int 2))) (mAndV (mCall F_is_key (mCons (mBin ixF (mVar 0) (mCon (.int 0))) mNil)) (mCall F_is_row_value (mCons (mBin ixF (mVar 0) (mCon (.int 1))) mNil))))))
def F__is_row : FnT := fnM 1 1 m__is_row
theorem ok__is_row (T : Txt g.K mg a fd) : FnG P w g.K mg base 4 (a 15) (fd 15) ["value"] (spF g F__is_row) := fn_ok T.f__is_row sc__is_row fun cdv A outer s H E hr =>
  (rss_one (rs_ret (re_and rfl (re_isi rfl rfl T.b_isinstance rfl (re_var (i := 0)) rfl T.b_tuple rfl) (re_and rfl (re_cmp (ro_eq rfl (un100 hr)) (re_callB (rc_len rfl) rfl T.b_len rfl (ra_cons (re_var (i := 0)) ra_nil)) re_int) (re_and rfl (re_call (takes_of rfl rfl rfl rfl) (ok_is_key T) (hr.mono (by decide)) rfl T.g_is_key T.f_is_key.kp T.n_is_key (ra_cons (re_ix rfl (un100 hr) (re_var (i := 0)) re_int) ra_nil)) (re_one (re_call (takes_of rfl rfl rfl rfl) (ok_is_row_value T) (hr.mono (by decide)) rfl T.g_is_row_value T.f_is_row_value.kp T.n_is_row_value (ra_cons (re_ix rfl (un100 hr) (re_var (i := 0)) re_int) ra_nil))))))))
theorem sc__do_ascend : FnScope ["keys_there", "at"] ["keys_there"] (defScope (top 16)) := ⟨rfl, rfl, rfl, by decide +kernel, rfl, by decide +kernel, by decide +kernel⟩
def m__do_ascend : MS := (sRet (mCB (un allF) (mCons (mComp false (mRng2 (mCons (mCon (.int 1)) (mCons (mCB (un lenW) (mCons (mVar 0) mNil)) mNil))) [1] (tName 1) mYes (mBin (ordF .lt) (mBin ixF (mVar 0) (mBin subF (mVar 1) (mCon (.int 1)))) (mBin ixF (mVar 0) (mVar 1)))) mNil)))
def F__do_ascend : FnT := fnM 2 1 m__do_ascend
theorem ok__do_ascend (T : Txt g.K mg a fd) : FnG P w g.K mg base 1 (a 16) (fd 16) ["keys_there"] (spF g F__do_ascend) := fn_ok T.f__do_ascend sc__do_ascend fun cdv A outer s H E hr =>
  (rss_one (rs_ret (re_callB (rc_all rfl rfl) rfl T.b_all rfl (ra_cons (re_lc (k := false) rfl sc__do_ascend.nd (own := [("at", 1)]) (blkOk_by (by rfl)) (ri_range2 rfl T.b_range (ra_cons re_int (ra_cons (re_callB (rc_len rfl) rfl T.b_len rfl (ra_cons (re_var (i := 0)) ra_nil)) ra_nil))) (fun s H C cl fp => (rc_name (i := 1) sc__do_ascend.nd)) (fun s H C cl fp => rts_nil) (fun s H C cl fp => (re_cmp (ro_ord .lt rfl (un100 hr)) (re_ix rfl (un100 hr) (re_var (i := 0)) (re_bin ro_sub (re_var (i := 1)) re_int)) (re_ix rfl (un100 hr) (re_var (i := 0)) (re_var (i := 1)))))) ra_nil))))
theorem sc_are_rows : FnScope ["value", "row"] ["value"] (defScope (top 17)) := ⟨rfl, rfl, rfl, by decide +kernel, rfl, by decide +kernel, by decide +kernel⟩
def m_are_rows : MS := (sSeq (sIf (mOr (mNot (mTru (mIsi "tuple" (mVar 0)))) (mB (mBin (ordF .gt) (mCB (un lenW) (mCons (mVar 0) mNil)) (mCon (.int 2000))))) (sRet (mCon (.bool false))) sNil) (sRet (mAndV (mCB (un allF) (mCons (mComp false (mIt (mVar 0)) [1] (tName 1) mYes (mCall F__is_row (mCons (mVar 1) mNil))) mNil)) (mCall F__do_ascend (mCons (mComp false (mIt (mVar 0)) [1] (tName 1) mYes (mBin ixF (mVar 1) (mCon (.int 0)))) mNil)))))
def F_are_rows : FnT := fnM 2 1 m_are_rows
theorem ok_are_rows (T : Txt g.K mg a fd) : FnG P w g.K mg base 5 (a 17) (fd 17) ["value"] (spF g F_are_rows) := fn_ok T.f_are_rows sc_are_rows fun cdv A outer s H E hr =>
  (rss_cons (rs_if (PW.pt (rw_or (rt_not (rt_tru rfl (re_isi rfl rfl T.b_isinstance rfl (re_var (i := 0)) rfl T.b_tuple rfl))) (rw_or1 (rt_cmp (ro_ord .gt rfl (un100 hr)) (re_callB (rc_len rfl) rfl T.b_len rfl (ra_cons (re_var (i := 0)) ra_nil)) (re_globE rfl T.c_MOST_ROWS fun _ => .int _))))) (rss_one (rs_ret re_bl)) rss_nil)
    (rss_one (rs_ret (re_and rfl (re_callB (rc_all rfl rfl) rfl T.b_all rfl (ra_cons (re_lc (k := false) rfl sc_are_rows.nd (own := [("row", 1)]) (blkOk_by (by rfl)) (ri_any rfl (re_var (i := 0))) (fun s H C cl fp => (rc_name (i := 1) sc_are_rows.nd)) (fun s H C cl fp => rts_nil) (fun s H C cl fp => (re_call takes0 (ok__is_row T) (hr.mono (by decide)) rfl T.g__is_row T.f__is_row.kp T.n__is_row (ra_cons (re_var (i := 1)) ra_nil)))) ra_nil)) (re_one (re_call (takes_of rfl rfl rfl rfl) (ok__do_ascend T) (hr.mono (by decide)) rfl T.g__do_ascend T.f__do_ascend.kp T.n__do_ascend (ra_cons (re_lc (k := false) rfl sc_are_rows.nd (own := [("row", 1)]) (blkOk_by (by rfl)) (ri_any rfl (re_var (i := 0))) (fun s H C cl fp => (rc_name (i := 1) sc_are_rows.nd)) (fun s H C cl fp => rts_nil) (fun s H C cl fp => (re_ix rfl (un100 hr) (re_var (i := 1)) re_int))) ra_nil)))))))
theorem sc_check_key : FnScope ["key"] ["key"] (defScope (top 18)) := ⟨rfl, rfl, rfl, by decide +kernel, rfl, by decide +kernel, by decide +kernel⟩
def m_check_key : MS := (sIf (mNot (mTru (mCall F_is_key (mCons (mVar 0) mNil)))) sNever sNil)
def F_check_key : FnT := fnM 1 1 m_check_key
theorem ok_check_key (T : Txt g.K mg a fd) : FnG P w g.K mg base 4 (a 18) (fd 18) ["key"] (spF g F_check_key) := fn_ok T.f_check_key sc_check_key fun cdv A outer s H E hr =>
  (rss_one (rs_if (rt_not (rt_tru rfl (re_call (takes_of rfl rfl rfl rfl) (ok_is_key T) (hr.mono (by decide)) rfl T.g_is_key T.f_is_key.kp T.n_is_key (ra_cons (re_var (i := 0)) ra_nil)))) (rss_one rs_never) rss_nil))
theorem sc_check_rows : FnScope ["rows"] ["rows"] (defScope (top 19)) := ⟨rfl, rfl, rfl, by decide +kernel, rfl, by decide +kernel, by decide +kernel⟩
def m_check_rows : MS := (sIf (mNot (mTru (mCall F_are_rows (mCons (mVar 0) mNil)))) sNever sNil)
def F_check_rows : FnT := fnM 1 1 m_check_rows
theorem ok_check_rows (T : Txt g.K mg a fd) : FnG P w g.K mg base 6 (a 19) (fd 19) ["rows"] (spF g F_check_rows) := fn_ok T.f_check_rows sc_check_rows fun cdv A outer s H E hr =>
  (rss_one (rs_if (rt_not (rt_tru rfl (re_call (takes_of rfl rfl rfl rfl) (ok_are_rows T) (hr.mono (by decide)) rfl T.g_are_rows T.f_are_rows.kp T.n_are_rows (ra_cons (re_var (i := 0)) ra_nil)))) (rss_one rs_never) rss_nil))
theorem sc_cells_of_row : FnScope ["key", "value"] ["key", "value"] (defScope (top 20)) := ⟨rfl, rfl, rfl, by decide +kernel, rfl, by decide +kernel, by decide +kernel⟩
def m_cells_of_row : MS := (sRet (mBin (addF false) (mBin (addF false) (mBin (addF false) (mTup (mCons (mCB (un lenW) (mCons (mVar 0) mNil)) mNil)) (mVar 0)) (mTup (mCons (mCB (un lenW) (mCons (mVar 1) mNil)) mNil))) (mVar 1)))
def F_cells_of_row : FnT := fnM 2 2 m_cells_of_row
theorem ok_cells_of_row (T : Txt g.K mg a fd) : FnG P w g.K mg base 1 (a 20) (fd 20) ["key", "value"] (spF g F_cells_of_row) := fn_ok T.f_cells_of_row sc_cells_of_row fun cdv A outer s H E hr =>
  (rss_one (rs_ret (re_bin (ro_add rfl) (re_bin (ro_add rfl) (re_bin (ro_add rfl) (re_tup (ra_cons (re_callB (rc_len rfl) rfl T.b_len rfl (ra_cons (re_var (i := 0)) ra_nil)) ra_nil)) (re_var (i := 0))) (re_tup (ra_cons (re_callB (rc_len rfl) rfl T.b_len rfl (ra_cons (re_var (i := 1)) ra_nil)) ra_nil))) (re_var (i := 1)))))
theorem sc_row_cells : FnScope ["key", "value"] ["key", "value"] (defScope (top 21)) := ⟨rfl, rfl, rfl, by decide +kernel, rfl, by decide +kernel, by decide +kernel⟩
def m_row_cells : MS := (sSeq (sDrop (mCall F_check_key (mCons (mVar 0) mNil))) (sSeq (sIf (mNot (mTru (mCall F_is_row_value (mCons (mVar 1) mNil)))) sNever sNil) (sRet (mCall F_cells_of_row (mCons (mVar 0) (mCons (mVar 1) mNil))))))
def F_row_cells : FnT := fnM 2 2 m_row_cells
theorem ok_row_cells (T : Txt g.K mg a fd) : FnG P w g.K mg base 5 (a 21) (fd 21) ["key", "value"] (spF g F_row_cells) := fn_ok T.f_row_cells sc_row_cells fun cdv A outer s H E hr =>
  (rss_cons (rs_expr (re_call (takes_of rfl rfl rfl rfl) (ok_check_key T) (hr.mono (by decide)) rfl T.g_check_key T.f_check_key.kp T.n_check_key (ra_cons (re_var (i := 0)) ra_nil)))
    (rss_cons (rs_if (rt_not (rt_tru rfl (re_call (takes_of rfl rfl rfl rfl) (ok_is_row_value T) (hr.mono (by decide)) rfl T.g_is_row_value T.f_is_row_value.kp T.n_is_row_value (ra_cons (re_var (i := 1)) ra_nil)))) (rss_one rs_never) rss_nil)
    (rss_one (rs_ret (re_call (takes_of rfl rfl rfl rfl) (ok_cells_of_row T) (hr.mono (by decide)) rfl T.g_cells_of_row T.f_cells_of_row.kp T.n_cells_of_row (ra_cons (re_var (i := 0)) (ra_cons (re_var (i := 1)) ra_nil)))))))
theorem sc_rows_cells : FnScope ["rows", "cell", "key", "value"] ["rows"] (defScope (top 22)) := ⟨rfl, rfl, rfl, by decide +kernel, rfl, by decide +kernel, by decide +kernel⟩
def m_rows_cells : MS := (sSeq (sDrop (mCall F_check_rows (mCons (mVar 0) mNil))) (sRet (mCB (tupleF) (mCons (mComp2 false (mIt (mVar 0)) [2, 3, 1] (tTup 2 (tCons (tName 2) (tCons (tName 3) tNil))) mYes (mIt (mCall F_cells_of_row (mCons (mVar 2) (mCons (mVar 3) mNil)))) [1] (tName 1) mYes (mVar 1)) mNil))))
def F_rows_cells : FnT := fnM 4 1 m_rows_cells
theorem ok_rows_cells (T : Txt g.K mg a fd) : FnG P w g.K mg base 7 (a 22) (fd 22) ["rows"] (spF g F_rows_cells) := fn_ok T.f_rows_cells sc_rows_cells fun cdv A outer s H E hr =>
  (rss_cons (rs_expr (re_call (takes_of rfl rfl rfl rfl) (ok_check_rows T) (hr.mono (by decide)) rfl T.g_check_rows T.f_check_rows.kp T.n_check_rows (ra_cons (re_var (i := 0)) ra_nil)))
    (rss_one (rs_ret (re_callTy (rc_tuple rfl) rfl T.b_tuple rfl (ra_cons (re_lc2 (k := false) rfl sc_rows_cells.nd (own := [("key", 2), ("value", 3), ("cell", 1)]) (vs1 := [1]) (blkOk_by (by rfl)) (ri_any rfl (re_var (i := 0))) (fun s H C cl fp => (rc_tup rfl rfl (rcs_cons (rc_name (i := 2) sc_rows_cells.nd) (rcs_cons (rc_name (i := 3) sc_rows_cells.nd) rcs_nil calm_nil) (calm_cons calm_name calm_nil)))) (fun s H C cl fp => rts_nil) (fun s H C cl fp => (ri_any rfl (re_call takes0 (ok_cells_of_row T) (hr.mono (by decide)) rfl T.g_cells_of_row T.f_cells_of_row.kp T.n_cells_of_row (ra_cons (re_var (i := 2)) (ra_cons (re_var (i := 3)) ra_nil))))) (fun s H C cl fp => (rc_name (i := 1) sc_rows_cells.nd)) (fun s H C cl fp => rts_nil) (fun s H C cl fp => (re_var (i := 1)))) ra_nil)))))
theorem sc__stretch : FnScope ["cells", "at", "most", "stretch"] ["cells", "at", "most"] (defScope (top 23)) := ⟨rfl, rfl, rfl, by decide +kernel, rfl, by decide +kernel, by decide +kernel⟩
def m__stretch : MS := (sSeq (sIf (mOr (mB (mBin (ordF .ge) (mVar 1) (mCB (un lenW) (mCons (mVar 0) mNil)))) (mNot (mB (mChain (ordF .le) (ordF .le) (mCon (.int 1)) (mBin ixF (mVar 0) (mVar 1)) (mVar 2))))) (sRet (mCon .none)) sNil) (sSeq (sAsg (mSl (slF false) (mVar 0) (mPart (mBin (addF false) (mVar 1) (mCon (.int 1)))) (mPart (mBin (addF false) (mBin (addF false) (mVar 1) (mCon (.int 1))) (mBin ixF (mVar 0) (mVar 1))))) (tName 3)) (sRet (mIf (mB (mBin (eqF false) (mCB (un lenW) (mCons (mVar 3) mNil)) (mBin ixF (mVar 0) (mVar 1)))) (mVar 3) (mCon .none)))))
def F__stretch : FnT := fnM 4 3 m__stretch
theorem ok__stretch (T : Txt g.K mg a fd) : FnG P w g.K mg base 1 (a 23) (fd 23) ["cells", "at", "most"] (spF g F__stretch) := fn_ok T.f__stretch sc__stretch fun cdv A outer s H E hr =>
  (rss_cons (rs_if (PW.pt (rw_or (rt_cmp (ro_ord .ge rfl (un100 hr)) (re_var (i := 1)) (re_callB (rc_len rfl) rfl T.b_len rfl (ra_cons (re_var (i := 0)) ra_nil))) (rw_or1 (rt_not (rt_chain (ro_ord .le rfl (un100 hr)) (ro_ord .le rfl (un100 hr)) re_int (re_ix rfl (un100 hr) (re_var (i := 0)) (re_var (i := 1))) (re_var (i := 2))))))) (rss_one (rs_ret re_non)) rss_nil)
    (rss_cons (rs_set sc__stretch.nd (re_sl (slr rfl) (re_var (i := 0)) (ro_part (re_bin (ro_add rfl) (re_var (i := 1)) re_int)) (ro_part (re_bin (ro_add rfl) (re_bin (ro_add rfl) (re_var (i := 1)) re_int) (re_ix rfl (un100 hr) (re_var (i := 0)) (re_var (i := 1)))))))
    (rss_one (rs_ret (re_ife (rt_cmp (ro_eq rfl (un100 hr)) (re_callB (rc_len rfl) rfl T.b_len rfl (ra_cons (re_var (i := 3)) ra_nil)) (re_ix rfl (un100 hr) (re_var (i := 0)) (re_var (i := 1)))) (re_var (i := 3)) re_non)))))
theorem sc_rows_in_cells : FnScope ["cells", "rows", "at", "key", "value", "row"] ["cells"] (defScope (top 24)) := ⟨rfl, rfl, rfl, by decide +kernel, rfl, by decide +kernel, by decide +kernel⟩
def m_rows_in_cells : MS := (sSeq (sAsg (mLst true mNil) (tName 1)) (sSeq (sAsg (mCon (.int 0)) (tName 2)) (sSeq (whileG (mB (mBin (ordF .lt) (mVar 2) (mCB (un lenW) (mCons (mVar 0) mNil)))) (sSeq (sAsg (mCall F__stretch (mCons (mVar 0) (mCons (mVar 2) (mCons (mCon (.int 3)) mNil)))) (tName 3)) (sSeq (sAsg (mIf (mB (mBin (isNF false) (mVar 3) (mCon .none))) (mCon .none) (mCall F__stretch (mCons (mVar 0) (mCons (mBin (addF false) (mBin (addF false) (mVar 2) (mCon (.int 1))) (mCB (un lenW) (mCons (mVar 3) mNil))) (mCons (mCon (.int 8)) mNil))))) (tName 4)) (sSeq (sIf (mB (mBin (isNF false) (mVar 4) (mCon .none))) (sRet (mCon .none)) sNil) (sSeq (sDrop (mMt .lst appF (mVar 1) (mCons (mTup (mCons (mVar 3) (mCons (mVar 4) mNil))) mNil))) (sAsg (mBin (addF false) (mBin (addF false) (mBin (addF false) (mVar 2) (mCon (.int 2))) (mCB (un lenW) (mCons (mVar 3) mNil))) (mCB (un lenW) (mCons (mVar 4) mNil))) (tName 2)))))) 1000000) (sSeq (sIf (mOr (mB (mBin (ordF .gt) (mCB (un lenW) (mCons (mVar 1) mNil)) (mCon (.int 2000)))) (mNot (mTru (mCall F__do_ascend (mCons (mComp false (mIt (mVar 1)) [5] (tName 5) mYes (mBin ixF (mVar 5) (mCon (.int 0)))) mNil))))) (sRet (mCon .none)) sNil) (sRet (mCB (tupleF) (mCons (mVar 1) mNil)))))))
def F_rows_in_cells : FnT := fnM 6 1 m_rows_in_cells
theorem ok_rows_in_cells (T : Txt g.K mg a fd) : FnG P w g.K mg base 2 (a 24) (fd 24) ["cells"] (spF g F_rows_in_cells) := fn_ok T.f_rows_in_cells sc_rows_in_cells fun cdv A outer s H E hr =>
  (rss_cons (rs_set sc_rows_in_cells.nd (re_lst (k := true) ra_nil))
    (rss_cons (rs_set sc_rows_in_cells.nd re_int)
    (rss_cons (rs_while (passes_of rfl) (rt_cmp (ro_ord .lt rfl (un100 hr)) (re_var (i := 2)) (re_callB (rc_len rfl) rfl T.b_len rfl (ra_cons (re_var (i := 0)) ra_nil))) (rss_cons (rs_set sc_rows_in_cells.nd (re_call (takes_of rfl rfl rfl rfl) (ok__stretch T) (hr.mono (by decide)) rfl T.g__stretch T.f__stretch.kp T.n__stretch (ra_cons (re_var (i := 0)) (ra_cons (re_var (i := 2)) (ra_cons (re_globE rfl T.c_MOST_KEY fun _ => .int _) ra_nil)))))
    (rss_cons (rs_set sc_rows_in_cells.nd (re_ife (rt_cmp ro_isN (re_var (i := 3)) re_non) re_non (re_call (takes_of rfl rfl rfl rfl) (ok__stretch T) (hr.mono (by decide)) rfl T.g__stretch T.f__stretch.kp T.n__stretch (ra_cons (re_var (i := 0)) (ra_cons (re_bin (ro_add rfl) (re_bin (ro_add rfl) (re_var (i := 2)) re_int) (re_callB (rc_len rfl) rfl T.b_len rfl (ra_cons (re_var (i := 3)) ra_nil))) (ra_cons (re_globE rfl T.c_MOST_VALUE fun _ => .int _) ra_nil))))))
    (rss_cons (rs_if (rt_cmp ro_isN (re_var (i := 4)) re_non) (rss_one (rs_ret re_non)) rss_nil)
    (rss_cons (rs_expr (re_mt rfl (T := .lst) PySem.F.plainAttrs_list PySem.F.slot_list_append PySem.F.type_list_append (mt_app) (re_var (i := 1)) (ra_cons (re_tup (ra_cons (re_var (i := 3)) (ra_cons (re_var (i := 4)) ra_nil))) ra_nil)))
    (rss_one (rs_set sc_rows_in_cells.nd (re_bin (ro_add rfl) (re_bin (ro_add rfl) (re_bin (ro_add rfl) (re_var (i := 2)) re_int) (re_callB (rc_len rfl) rfl T.b_len rfl (ra_cons (re_var (i := 3)) ra_nil))) (re_callB (rc_len rfl) rfl T.b_len rfl (ra_cons (re_var (i := 4)) ra_nil))))))))))
    (rss_cons (rs_if (PW.pt (rw_or (rt_cmp (ro_ord .gt rfl (un100 hr)) (re_callB (rc_len rfl) rfl T.b_len rfl (ra_cons (re_var (i := 1)) ra_nil)) (re_globE rfl T.c_MOST_ROWS fun _ => .int _)) (rw_or1 (rt_not (rt_tru rfl (re_call (takes_of rfl rfl rfl rfl) (ok__do_ascend T) (hr.mono (by decide)) rfl T.g__do_ascend T.f__do_ascend.kp T.n__do_ascend (ra_cons (re_lc (k := false) rfl sc_rows_in_cells.nd (own := [("row", 5)]) (blkOk_by (by rfl)) (ri_any rfl (re_var (i := 1))) (fun s H C cl fp => (rc_name (i := 5) sc_rows_in_cells.nd)) (fun s H C cl fp => rts_nil) (fun s H C cl fp => (re_ix rfl (un100 hr) (re_var (i := 5)) re_int))) ra_nil))))))) (rss_one (rs_ret re_non)) rss_nil)
    (rss_one (rs_ret (re_callTy (rc_tuple rfl) rfl T.b_tuple rfl (ra_cons (re_var (i := 1)) ra_nil))))))))
theorem sc_rows_told : FnScope ["cells"] ["cells"] (defScope (top 25)) := ⟨rfl, rfl, rfl, by decide +kernel, rfl, by decide +kernel, by decide +kernel⟩
def m_rows_told : MS := (sSeq (sIf (mNot (mTru (mCall F_are_cells (mCons (mVar 0) (mCons (mCon (.int 30000)) mNil))))) sNever sNil) (sRet (mCall F_rows_in_cells (mCons (mVar 0) mNil))))
def F_rows_told : FnT := fnM 1 1 m_rows_told
theorem ok_rows_told (T : Txt g.K mg a fd) : FnG P w g.K mg base 3 (a 25) (fd 25) ["cells"] (spF g F_rows_told) := fn_ok T.f_rows_told sc_rows_told fun cdv A outer s H E hr =>
  (rss_cons (rs_if (rt_not (rt_tru rfl (re_call (takes_of rfl rfl rfl rfl) (ok_are_cells T) (hr.mono (by decide)) rfl T.g_are_cells T.f_are_cells.kp T.n_are_cells (ra_cons (re_var (i := 0)) (ra_cons (re_globE rfl T.c_MOST_TOLD fun _ => .int _) ra_nil))))) (rss_one rs_never) rss_nil)
    (rss_one (rs_ret (re_call (takes_of rfl rfl rfl rfl) (ok_rows_in_cells T) (hr.mono (by decide)) rfl T.g_rows_in_cells T.f_rows_in_cells.kp T.n_rows_in_cells (ra_cons (re_var (i := 0)) ra_nil)))))
theorem sc__law_vat : FnScope ["script", "spot", "cell", "great", "mixed"] ["script", "spot"] (defScope (top 27)) := ⟨rfl, rfl, rfl, by decide +kernel, rfl, by decide +kernel, by decide +kernel⟩
def m__law_vat : MS := (sSeq (sAsg (mIf (mB (mBin (ordF .lt) (mVar 1) (mCB (un lenW) (mCons (mVar 0) mNil)))) (mCB (un intW) (mCons (mBin ixF (mVar 0) (mVar 1)) mNil)) (mBin (addF false) (mBin (mulF false) (mCon (.int 173)) (mVar 1)) (mCon (.int 59)))) (tName 2)) (sSeq (sAsg (mBin modF (mCB (un intW) (mCons (mCB (un absW) (mCons (mVar 2) mNil)) mNil)) (mBin (mulF false) (mBin powF (mCon (.int 10)) (mCon (.int 55))) (mBin powF (mCon (.int 10)) (mCon (.int 58))))) (tName 3)) (sSeq (sAsg (mBin (addF false) (mBin (addF false) (mBin (addF false) (mBin (mulF false) (mBin modF (mVar 3) (mCon (.int 2305843009213693921))) (mCon (.int 71))) (mBin (mulF false) (mCon (.int 1103)) (mVar 1))) (mBin (mulF false) (mCon (.int 37)) (mCB (un intW) (mCons (mBin (ordF .lt) (mVar 2) (mCon (.int 0))) mNil)))) (mCon (.int 23))) (tName 4)) (sRet (mLst true (mCons (mCB (max2F) (mCons (mCon (.int 0)) (mCons (mBin subF (mVar 3) (mBin powF (mCon (.int 10)) (mCon (.int 16)))) mNil))) (mCons (mBin modF (mCB (un intW) (mCons (mVar 4) mNil)) (mCon (.int 1152921504606846869))) (mCons (mCon (.int 0)) mNil))))))))
def F__law_vat : FnT := fnM 5 2 m__law_vat
theorem ok__law_vat (T : Txt g.K mg a fd) : FnG P w g.K mg base 1 (a 27) (fd 27) ["script", "spot"] (spF g F__law_vat) := fn_ok T.f__law_vat sc__law_vat fun cdv A outer s H E hr =>
  (rss_cons (rs_set sc__law_vat.nd (re_ife (rt_cmp (ro_ord .lt rfl (un100 hr)) (re_var (i := 1)) (re_callB (rc_len rfl) rfl T.b_len rfl (ra_cons (re_var (i := 0)) ra_nil))) (re_callTy (rc_int) rfl T.b_int rfl (ra_cons (re_ix rfl (un100 hr) (re_var (i := 0)) (re_var (i := 1))) ra_nil)) (re_bin (ro_add rfl) (re_bin (ro_mul rfl) re_int (re_var (i := 1))) re_int)))
    (rss_cons (rs_set sc__law_vat.nd (re_bin ro_mod (re_callTy (rc_int) rfl T.b_int rfl (ra_cons (re_callB (rc_abs) rfl T.b_abs rfl (ra_cons (re_var (i := 2)) ra_nil)) ra_nil)) (re_bin (ro_mul rfl) (re_bin ro_pow re_int re_int) (re_bin ro_pow re_int re_int))))
    (rss_cons (rs_set sc__law_vat.nd (re_bin (ro_add rfl) (re_bin (ro_add rfl) (re_bin (ro_add rfl) (re_bin (ro_mul rfl) (re_bin ro_mod (re_var (i := 3)) re_int) re_int) (re_bin (ro_mul rfl) re_int (re_var (i := 1)))) (re_bin (ro_mul rfl) re_int (re_callTy (rc_int) rfl T.b_int rfl (ra_cons (re_cmp (ro_ord .lt rfl (un100 hr)) (re_var (i := 2)) re_int) ra_nil)))) re_int))
    (rss_one (rs_ret (re_lst (k := true) (ra_cons (re_callB (rc_max2 rfl) rfl T.b_max rfl (ra_cons re_int (ra_cons (re_bin ro_sub (re_var (i := 3)) (re_bin ro_pow re_int re_int)) ra_nil))) (ra_cons (re_bin ro_mod (re_callTy (rc_int) rfl T.b_int rfl (ra_cons (re_var (i := 4)) ra_nil)) re_int) (ra_cons re_int ra_nil)))))))))
theorem sc__law_drop : FnScope ["vat", "total", "one", "two", "found"] ["vat", "total"] (defScope (top 28)) := ⟨rfl, rfl, rfl, by decide +kernel, rfl, by decide +kernel, by decide +kernel⟩
def m__law_drop : MS := (sSeq (sIf (mB (mBin (ordF .gt) (mBin ixF (mVar 0) (mCon (.int 0))) (mCon (.int 0)))) (sSeq (sAsg (mBin modF (mCB (un intW) (mCons (mBin ixF (mVar 0) (mCon (.int 0))) mNil)) (mVar 1)) (tName 4)) (sSeq (sAsg (mBin fdivF (mBin ixF (mVar 0) (mCon (.int 0))) (mVar 1)) (tSub (mVar 0) (mCon (.int 0)) setF)) (sRet (mVar 4)))) sNil) (sSeq (sAsg (mBin (addF false) (mBin ixF (mVar 0) (mCon (.int 2))) (mCon (.int 1))) (tSub (mVar 0) (mCon (.int 2)) setF)) (sSeq (sAsg (mBin modF (mCB (un intW) (mCons (mBin (addF false) (mBin ixF (mVar 0) (mCon (.int 1))) (mBin (mulF false) (mCon (.int 49979687)) (mBin ixF (mVar 0) (mCon (.int 2))))) mNil)) (mCon (.int 2305843009213693951))) (tName 2)) (sSeq (sAsg (mBin (addF false) (mBin (mulF false) (mBin modF (mCB (un intW) (mCons (mBin (addF false) (mBin (mulF false) (mVar 2) (mVar 2)) (mBin (mulF false) (mCon (.int 101)) (mBin ixF (mVar 0) (mCon (.int 2))))) mNil)) (mCon (.int 2305843009213693921))) (mCon (.int 27644437))) (mVar 2)) (tName 3)) (sRet (mBin modF (mCB (un intW) (mCons (mBin fdivF (mVar 3) (mCon (.int 65537))) mNil)) (mVar 1)))))))
def F__law_drop : FnT := fnM 5 2 m__law_drop
theorem ok__law_drop (T : Txt g.K mg a fd) : FnG P w g.K mg base 1 (a 28) (fd 28) ["vat", "total"] (spF g F__law_drop) := fn_ok T.f__law_drop sc__law_drop fun cdv A outer s H E hr =>
  (rss_cons (rs_if (rt_cmp (ro_ord .gt rfl (un100 hr)) (re_ix rfl (un100 hr) (re_var (i := 0)) re_int) re_int) (rss_cons (rs_set sc__law_drop.nd (re_bin ro_mod (re_callTy (rc_int) rfl T.b_int rfl (ra_cons (re_ix rfl (un100 hr) (re_var (i := 0)) re_int) ra_nil)) (re_var (i := 1))))
    (rss_cons (rs_asg (re_bin ro_fdiv (re_ix rfl (un100 hr) (re_var (i := 0)) re_int) (re_var (i := 1))) (rg_sub (re_var (i := 0)) re_int (set_ok (un1 hr))))
    (rss_one (rs_ret (re_var (i := 4)))))) rss_nil)
    (rss_cons (rs_asg (re_bin (ro_add rfl) (re_ix rfl (un100 hr) (re_var (i := 0)) re_int) re_int) (rg_sub (re_var (i := 0)) re_int (set_ok (un1 hr))))
    (rss_cons (rs_set sc__law_drop.nd (re_bin ro_mod (re_callTy (rc_int) rfl T.b_int rfl (ra_cons (re_bin (ro_add rfl) (re_ix rfl (un100 hr) (re_var (i := 0)) re_int) (re_bin (ro_mul rfl) re_int (re_ix rfl (un100 hr) (re_var (i := 0)) re_int))) ra_nil)) re_int))
    (rss_cons (rs_set sc__law_drop.nd (re_bin (ro_add rfl) (re_bin (ro_mul rfl) (re_bin ro_mod (re_callTy (rc_int) rfl T.b_int rfl (ra_cons (re_bin (ro_add rfl) (re_bin (ro_mul rfl) (re_var (i := 2)) (re_var (i := 2))) (re_bin (ro_mul rfl) re_int (re_ix rfl (un100 hr) (re_var (i := 0)) re_int))) ra_nil)) re_int) re_int) (re_var (i := 2))))
    (rss_one (rs_ret (re_bin ro_mod (re_callTy (rc_int) rfl T.b_int rfl (ra_cons (re_bin ro_fdiv (re_var (i := 3)) re_int) ra_nil)) (re_var (i := 1)))))))))
theorem sc__law_taste : FnScope ["vat", "items"] ["vat", "items"] (defScope (top 29)) := ⟨rfl, rfl, rfl, by decide +kernel, rfl, by decide +kernel, by decide +kernel⟩
def m__law_taste : MS := (sRet (mBin ixF (mVar 1) (mCall F__law_drop (mCons (mVar 0) (mCons (mCB (un lenW) (mCons (mVar 1) mNil)) mNil)))))
def F__law_taste : FnT := fnM 2 2 m__law_taste
theorem ok__law_taste (T : Txt g.K mg a fd) : FnG P w g.K mg base 2 (a 29) (fd 29) ["vat", "items"] (spF g F__law_taste) := fn_ok T.f__law_taste sc__law_taste fun cdv A outer s H E hr =>
  (rss_one (rs_ret (re_ix rfl (un100 hr) (re_var (i := 1)) (re_call (takes_of rfl rfl rfl rfl) (ok__law_drop T) (hr.mono (by decide)) rfl T.g__law_drop T.f__law_drop.kp T.n__law_drop (ra_cons (re_var (i := 0)) (ra_cons (re_callB (rc_len rfl) rfl T.b_len rfl (ra_cons (re_var (i := 1)) ra_nil)) ra_nil))))))
theorem sc__law_cells : FnScope ["vat", "least", "most", "many", "top", "turn"] ["vat", "least", "most"] (defScope (top 30)) := ⟨rfl, rfl, rfl, by decide +kernel, rfl, by decide +kernel, by decide +kernel⟩
def m__law_cells : MS := (sSeq (sAsg (mBin (addF false) (mVar 1) (mCall F__law_drop (mCons (mVar 0) (mCons (mBin (addF false) (mBin subF (mVar 2) (mVar 1)) (mCon (.int 1))) mNil)))) (tName 3)) (sSeq (sAsg (mCall F__law_taste (mCons (mVar 0) (mCons (mLst false (mCons (mCon (.int 3)) (mCons (mCon (.int 3)) (mCons (mCon (.int 10)) (mCons (mBin powF (mCon (.int 10)) (mCon (.int 9))) (mCons (mBin powF (mCon (.int 10)) (mCon (.int 18))) mNil)))))) mNil))) (tName 4)) (sRet (mCB (tupleF) (mCons (mComp false (mRng1 (mCons (mVar 3) mNil)) [5] (tName 5) mYes (mCall F__law_drop (mCons (mVar 0) (mCons (mVar 4) mNil)))) mNil)))))
def F__law_cells : FnT := fnM 6 3 m__law_cells
theorem ok__law_cells (T : Txt g.K mg a fd) : FnG P w g.K mg base 3 (a 30) (fd 30) ["vat", "least", "most"] (spF g F__law_cells) := fn_ok T.f__law_cells sc__law_cells fun cdv A outer s H E hr =>
  (rss_cons (rs_set sc__law_cells.nd (re_bin (ro_add rfl) (re_var (i := 1)) (re_call (takes_of rfl rfl rfl rfl) (ok__law_drop T) (hr.mono (by decide)) rfl T.g__law_drop T.f__law_drop.kp T.n__law_drop (ra_cons (re_var (i := 0)) (ra_cons (re_bin (ro_add rfl) (re_bin ro_sub (re_var (i := 2)) (re_var (i := 1))) re_int) ra_nil)))))
    (rss_cons (rs_set sc__law_cells.nd (re_call (takes_of rfl rfl rfl rfl) (ok__law_taste T) (hr.mono (by decide)) rfl T.g__law_taste T.f__law_taste.kp T.n__law_taste (ra_cons (re_var (i := 0)) (ra_cons (re_lst (k := false) (ra_cons re_int (ra_cons re_int (ra_cons re_int (ra_cons (re_bin ro_pow re_int re_int) (ra_cons (re_bin ro_pow re_int re_int) ra_nil)))))) ra_nil))))
    (rss_one (rs_ret (re_callTy (rc_tuple rfl) rfl T.b_tuple rfl (ra_cons (re_lc (k := false) rfl sc__law_cells.nd (own := [("turn", 5)]) (blkOk_by (by rfl)) (ri_range1 rfl T.b_range (ra_cons (re_var (i := 3)) ra_nil)) (fun s H C cl fp => (rc_name (i := 5) sc__law_cells.nd)) (fun s H C cl fp => rts_nil) (fun s H C cl fp => (re_call takes0 (ok__law_drop T) (hr.mono (by decide)) rfl T.g__law_drop T.f__law_drop.kp T.n__law_drop (ra_cons (re_var (i := 0)) (ra_cons (re_var (i := 4)) ra_nil))))) ra_nil))))))
theorem sc__law_rows : FnScope ["vat", "most", "found", "turn", "key"] ["vat", "most"] (defScope (top 31)) := ⟨rfl, rfl, rfl, by decide +kernel, rfl, by decide +kernel, by decide +kernel⟩
def m__law_rows : MS := (sSeq (sAsg (mDic0 true) (tName 2)) (sSeq (sFor (mRng1 (mCons (mCall F__law_drop (mCons (mVar 0) (mCons (mBin (addF false) (mVar 1) (mCon (.int 1))) mNil))) mNil)) (tName 3) (sAsg (mCall F__law_cells (mCons (mVar 0) (mCons (mCon (.int 1)) (mCons (mCon (.int 8)) mNil)))) (tSub (mVar 2) (mCall F__law_cells (mCons (mVar 0) (mCons (mCon (.int 1)) (mCons (mCon (.int 3)) mNil)))) setF))) (sRet (mCB (tupleKF) (mCons (mComp false (mIt (mCB (sortDF false) (mCons (mVar 2) mNil))) [4] (tName 4) mYes (mTup (mCons (mVar 4) (mCons (mBin ixF (mVar 2) (mVar 4)) mNil)))) mNil)))))
def F__law_rows : FnT := fnM 5 2 m__law_rows
theorem ok__law_rows (T : Txt g.K mg a fd) : FnG P w g.K mg base 4 (a 31) (fd 31) ["vat", "most"] (spF g F__law_rows) := fn_ok T.f__law_rows sc__law_rows fun cdv A outer s H E hr =>
  (rss_cons (rs_set sc__law_rows.nd (re_dic0 (k := true)))
    (rss_cons (rs_for (passes_of rfl) rfl (ri_range1 rfl T.b_range (ra_cons (re_call (takes_of rfl rfl rfl rfl) (ok__law_drop T) (hr.mono (by decide)) rfl T.g__law_drop T.f__law_drop.kp T.n__law_drop (ra_cons (re_var (i := 0)) (ra_cons (re_bin (ro_add rfl) (re_var (i := 1)) re_int) ra_nil))) ra_nil)) (rg_name (i := 3) sc__law_rows.nd) (rss_one (rs_asg (re_call (takes_of rfl rfl rfl rfl) (ok__law_cells T) (hr.mono (by decide)) rfl T.g__law_cells T.f__law_cells.kp T.n__law_cells (ra_cons (re_var (i := 0)) (ra_cons re_int (ra_cons re_int ra_nil)))) (rg_sub (re_var (i := 2)) (re_call (takes_of rfl rfl rfl rfl) (ok__law_cells T) (hr.mono (by decide)) rfl T.g__law_cells T.f__law_cells.kp T.n__law_cells (ra_cons (re_var (i := 0)) (ra_cons re_int (ra_cons re_int ra_nil)))) (set_ok (un1 hr))))))
    (rss_one (rs_ret (re_callTy (rc_tupleK rfl) rfl T.b_tuple rfl (ra_cons (re_lc (k := false) rfl sc__law_rows.nd (own := [("key", 4)]) (blkOk_by (by rfl)) (ri_any rfl (re_callB (rc_sortD (k := false) rfl rfl (un100 hr)) rfl T.b_sorted rfl (ra_cons (re_var (i := 2)) ra_nil))) (fun s H C cl fp => (rc_name (i := 4) sc__law_rows.nd)) (fun s H C cl fp => rts_nil) (fun s H C cl fp => (re_tup (ra_cons (re_var (i := 4)) (ra_cons (re_ix rfl (un100 hr) (re_var (i := 2)) (re_var (i := 4))) ra_nil))))) ra_nil))))))
theorem sc__law_own_cells : FnScope ["rows", "found", "key", "value"] ["rows"] (defScope (top 32)) := ⟨rfl, rfl, rfl, by decide +kernel, rfl, by decide +kernel, by decide +kernel⟩
def m__law_own_cells : MS := (sSeq (sAsg (mTup mNil) (tName 1)) (sSeq (sFor (mIt (mVar 0)) (tTup 2 (tCons (tName 2) (tCons (tName 3) tNil))) (sAsg (mBin (addF false) (mBin (addF false) (mBin (addF false) (mBin (addF false) (mVar 1) (mTup (mCons (mCB (un lenW) (mCons (mVar 2) mNil)) mNil))) (mVar 2)) (mTup (mCons (mCB (un lenW) (mCons (mVar 3) mNil)) mNil))) (mVar 3)) (tName 1))) (sRet (mVar 1))))
def F__law_own_cells : FnT := fnM 4 1 m__law_own_cells
theorem ok__law_own_cells (T : Txt g.K mg a fd) : FnG P w g.K mg base 1 (a 32) (fd 32) ["rows"] (spF g F__law_own_cells) := fn_ok T.f__law_own_cells sc__law_own_cells fun cdv A outer s H E hr =>
  (rss_cons (rs_set sc__law_own_cells.nd (re_tup ra_nil))
    (rss_cons (rs_for (passes_of rfl) rfl (ri_any rfl (re_var (i := 0))) (rg_tup rfl rfl (rgs_cons (rg_name (i := 2) sc__law_own_cells.nd) (rgs_cons (rg_name (i := 3) sc__law_own_cells.nd) rgs_nil calm_nil) (calm_cons calm_name calm_nil))) (rss_one (rs_set sc__law_own_cells.nd (re_bin (ro_add rfl) (re_bin (ro_add rfl) (re_bin (ro_add rfl) (re_bin (ro_add rfl) (re_var (i := 1)) (re_tup (ra_cons (re_callB (rc_len rfl) rfl T.b_len rfl (ra_cons (re_var (i := 2)) ra_nil)) ra_nil))) (re_var (i := 2))) (re_tup (ra_cons (re_callB (rc_len rfl) rfl T.b_len rfl (ra_cons (re_var (i := 3)) ra_nil)) ra_nil))) (re_var (i := 3))))))
    (rss_one (rs_ret (re_var (i := 1))))))
theorem sc__law_stretch : FnScope ["cells", "at", "most"] ["cells", "at", "most"] (defScope (top 33)) := ⟨rfl, rfl, rfl, by decide +kernel, rfl, by decide +kernel, by decide +kernel⟩
def m__law_stretch : MS := (sSeq (sIf (mOr (mB (mBin (ordF .ge) (mVar 1) (mCB (un lenW) (mCons (mVar 0) mNil)))) (mOr (mNot (mB (mChain (ordF .le) (ordF .le) (mCon (.int 1)) (mBin ixF (mVar 0) (mVar 1)) (mVar 2)))) (mB (mBin (ordF .ge) (mBin (addF false) (mVar 1) (mBin ixF (mVar 0) (mVar 1))) (mCB (un lenW) (mCons (mVar 0) mNil)))))) (sRet (mCon .none)) sNil) (sRet (mTup (mCons (mSl (slF false) (mVar 0) (mPart (mBin (addF false) (mVar 1) (mCon (.int 1)))) (mPart (mBin (addF false) (mBin (addF false) (mVar 1) (mCon (.int 1))) (mBin ixF (mVar 0) (mVar 1))))) (mCons (mBin (addF false) (mBin (addF false) (mVar 1) (mCon (.int 1))) (mBin ixF (mVar 0) (mVar 1))) mNil)))))
def F__law_stretch : FnT := fnM 3 3 m__law_stretch
theorem ok__law_stretch (T : Txt g.K mg a fd) : FnG P w g.K mg base 1 (a 33) (fd 33) ["cells", "at", "most"] (spF g F__law_stretch) := fn_ok T.f__law_stretch sc__law_stretch fun cdv A outer s H E hr =>
  (rss_cons (rs_if (PW.pt (rw_or (rt_cmp (ro_ord .ge rfl (un100 hr)) (re_var (i := 1)) (re_callB (rc_len rfl) rfl T.b_len rfl (ra_cons (re_var (i := 0)) ra_nil))) (rw_or (rt_not (rt_chain (ro_ord .le rfl (un100 hr)) (ro_ord .le rfl (un100 hr)) re_int (re_ix rfl (un100 hr) (re_var (i := 0)) (re_var (i := 1))) (re_var (i := 2)))) (rw_or1 (rt_cmp (ro_ord .ge rfl (un100 hr)) (re_bin (ro_add rfl) (re_var (i := 1)) (re_ix rfl (un100 hr) (re_var (i := 0)) (re_var (i := 1)))) (re_callB (rc_len rfl) rfl T.b_len rfl (ra_cons (re_var (i := 0)) ra_nil))))))) (rss_one (rs_ret re_non)) rss_nil)
    (rss_one (rs_ret (re_tup (ra_cons (re_sl (slr rfl) (re_var (i := 0)) (ro_part (re_bin (ro_add rfl) (re_var (i := 1)) re_int)) (ro_part (re_bin (ro_add rfl) (re_bin (ro_add rfl) (re_var (i := 1)) re_int) (re_ix rfl (un100 hr) (re_var (i := 0)) (re_var (i := 1)))))) (ra_cons (re_bin (ro_add rfl) (re_bin (ro_add rfl) (re_var (i := 1)) re_int) (re_ix rfl (un100 hr) (re_var (i := 0)) (re_var (i := 1)))) ra_nil))))))
theorem sc__law_read : FnScope ["cells", "found", "at", "key", "value", "row"] ["cells"] (defScope (top 34)) := ⟨rfl, rfl, rfl, by decide +kernel, rfl, by decide +kernel, by decide +kernel⟩
def m__law_read : MS := (sSeq (sPar 1 2 (mCons (mLst true mNil) (mCons (mCon (.int 0)) mNil))) (sSeq (whileG (mB (mBin (ordF .lt) (mVar 2) (mCB (un lenW) (mCons (mVar 0) mNil)))) (sSeq (sAsg (mCall F__law_stretch (mCons (mVar 0) (mCons (mVar 2) (mCons (mCon (.int 3)) mNil)))) (tName 3)) (sSeq (sAsg (mIf (mB (mBin (isNF true) (mVar 3) (mCon .none))) (mCall F__law_stretch (mCons (mVar 0) (mCons (mBin ixF (mVar 3) (mCon (.int 1))) (mCons (mCon (.int 8)) mNil)))) (mCon .none)) (tName 4)) (sSeq (sIf (mOr (mB (mBin (isNF false) (mVar 4) (mCon .none))) (mB (mBin (eqF true) (mComp false (mIt (mVar 1)) [5] (tName 5) (mB (mBin (ordF .ge) (mBin ixF (mVar 5) (mCon (.int 0))) (mBin ixF (mVar 3) (mCon (.int 0))))) (mCon (.int 1))) (mLst false mNil)))) (sRet (mCon .none)) sNil) (sSeq (sDrop (mMt .lst appF (mVar 1) (mCons (mTup (mCons (mBin ixF (mVar 3) (mCon (.int 0))) (mCons (mBin ixF (mVar 4) (mCon (.int 0))) mNil))) mNil))) (sAsg (mBin ixF (mVar 4) (mCon (.int 1))) (tName 2)))))) 1000000) (sRet (mCB (tupleF) (mCons (mVar 1) mNil)))))
def F__law_read : FnT := fnM 6 1 m__law_read
theorem ok__law_read (T : Txt g.K mg a fd) : FnG P w g.K mg base 2 (a 34) (fd 34) ["cells"] (spF g F__law_read) := fn_ok T.f__law_read sc__law_read fun cdv A outer s H E hr =>
  (rss_cons (rs_par rfl sc__law_read.nd (i := 1) (j := 2) rfl rfl (by decide) rfl rfl (ra_cons (re_lst (k := true) ra_nil) (ra_cons re_int ra_nil)) rfl)
    (rss_cons (rs_while (passes_of rfl) (rt_cmp (ro_ord .lt rfl (un100 hr)) (re_var (i := 2)) (re_callB (rc_len rfl) rfl T.b_len rfl (ra_cons (re_var (i := 0)) ra_nil))) (rss_cons (rs_set sc__law_read.nd (re_call (takes_of rfl rfl rfl rfl) (ok__law_stretch T) (hr.mono (by decide)) rfl T.g__law_stretch T.f__law_stretch.kp T.n__law_stretch (ra_cons (re_var (i := 0)) (ra_cons (re_var (i := 2)) (ra_cons re_int ra_nil)))))
    (rss_cons (rs_set sc__law_read.nd (re_ife (rt_cmp ro_notN (re_var (i := 3)) re_non) (re_call (takes_of rfl rfl rfl rfl) (ok__law_stretch T) (hr.mono (by decide)) rfl T.g__law_stretch T.f__law_stretch.kp T.n__law_stretch (ra_cons (re_var (i := 0)) (ra_cons (re_ix rfl (un100 hr) (re_var (i := 3)) re_int) (ra_cons re_int ra_nil)))) re_non))
    (rss_cons (rs_if (PW.pt (rw_or (rt_cmp ro_isN (re_var (i := 4)) re_non) (rw_or1 (rt_cmp (ro_ne rfl (un100 hr)) (re_lc (k := false) rfl sc__law_read.nd (own := [("row", 5)]) (blkOk_by (by rfl)) (ri_any rfl (re_var (i := 1))) (fun s H C cl fp => (rc_name (i := 5) sc__law_read.nd)) (fun s H C cl fp => (rts_one (rt_cmp (ro_ord .ge rfl (un100 hr)) (re_ix rfl (un100 hr) (re_var (i := 5)) re_int) (re_ix rfl (un100 hr) (re_var (i := 3)) re_int)))) (fun s H C cl fp => re_int)) (re_lst (k := false) ra_nil))))) (rss_one (rs_ret re_non)) rss_nil)
    (rss_cons (rs_expr (re_mt rfl (T := .lst) PySem.F.plainAttrs_list PySem.F.slot_list_append PySem.F.type_list_append (mt_app) (re_var (i := 1)) (ra_cons (re_tup (ra_cons (re_ix rfl (un100 hr) (re_var (i := 3)) re_int) (ra_cons (re_ix rfl (un100 hr) (re_var (i := 4)) re_int) ra_nil))) ra_nil)))
    (rss_one (rs_set sc__law_read.nd (re_ix rfl (un100 hr) (re_var (i := 4)) re_int))))))))
    (rss_one (rs_ret (re_callTy (rc_tuple rfl) rfl T.b_tuple rfl (ra_cons (re_var (i := 1)) ra_nil))))))
theorem sc__law_is_cells : FnScope ["value", "most", "cell"] ["value", "most"] (defScope (top 35)) := ⟨rfl, rfl, rfl, by decide +kernel, rfl, by decide +kernel, by decide +kernel⟩
def m__law_is_cells : MS := (sSeq (sIf (mOr (mNot (mTru (mIsi "tuple" (mVar 0)))) (mNot (mB (mChain (ordF .le) (ordF .le) (mCon (.int 1)) (mCB (un lenW) (mCons (mVar 0) mNil)) (mVar 1))))) (sRet (mCon (.bool false))) sNil) (sRet (mBin (eqF false) (mComp false (mIt (mVar 0)) [2] (tName 2) (mOr (mNot (mTru (mIsi "int" (mVar 2)))) (mOr (mTru (mIsi "bool" (mVar 2))) (mNot (mB (mChain (ordF .le) (ordF .lt) (mCon (.int 0)) (mVar 2) (mBin powF (mCon (.int 10)) (mCon (.int 18)))))))) (mCon (.int 1))) (mLst false mNil))))
def F__law_is_cells : FnT := fnM 3 2 m__law_is_cells
theorem ok__law_is_cells (T : Txt g.K mg a fd) : FnG P w g.K mg base 1 (a 35) (fd 35) ["value", "most"] (spF g F__law_is_cells) := fn_ok T.f__law_is_cells sc__law_is_cells fun cdv A outer s H E hr =>
  (rss_cons (rs_if (PW.pt (rw_or (rt_not (rt_tru rfl (re_isi rfl rfl T.b_isinstance rfl (re_var (i := 0)) rfl T.b_tuple rfl))) (rw_or1 (rt_not (rt_chain (ro_ord .le rfl (un100 hr)) (ro_ord .le rfl (un100 hr)) re_int (re_callB (rc_len rfl) rfl T.b_len rfl (ra_cons (re_var (i := 0)) ra_nil)) (re_var (i := 1))))))) (rss_one (rs_ret re_bl)) rss_nil)
    (rss_one (rs_ret (re_cmp (ro_eq rfl (un100 hr)) (re_lc (k := false) rfl sc__law_is_cells.nd (own := [("cell", 2)]) (blkOk_by (by rfl)) (ri_any rfl (re_var (i := 0))) (fun s H C cl fp => (rc_name (i := 2) sc__law_is_cells.nd)) (fun s H C cl fp => (rts_one (PW.pt (rw_or (rt_not (rt_tru rfl (re_isi rfl rfl T.b_isinstance rfl (re_var (i := 2)) rfl T.b_int rfl))) (rw_or (rt_tru rfl (re_isi rfl rfl T.b_isinstance rfl (re_var (i := 2)) rfl T.b_bool rfl)) (rw_or1 (rt_not (rt_chain (ro_ord .le rfl (un100 hr)) (ro_ord .lt rfl (un100 hr)) re_int (re_var (i := 2)) (re_bin ro_pow re_int re_int))))))))) (fun s H C cl fp => re_int)) (re_lst (k := false) ra_nil)))))
theorem sc__law_are_rows : FnScope ["value", "row", "later"] ["value"] (defScope (top 36)) := ⟨rfl, rfl, rfl, by decide +kernel, rfl, by decide +kernel, by decide +kernel⟩
def m__law_are_rows : MS := (sSeq (sIf (mNot (mTru (mIsi "tuple" (mVar 0)))) (sRet (mCon (.bool false))) sNil) (sSeq (sFor (mIt (mVar 0)) (tName 1) (sIf (mOr (mNot (mTru (mIsi "tuple" (mVar 1)))) (mOr (mB (mBin (eqF true) (mCB (un lenW) (mCons (mVar 1) mNil)) (mCon (.int 2)))) (mOr (mNot (mTru (mCall F__law_is_cells (mCons (mBin ixF (mVar 1) (mCon (.int 0))) (mCons (mCon (.int 3)) mNil))))) (mNot (mTru (mCall F__law_is_cells (mCons (mBin ixF (mVar 1) (mCon (.int 1))) (mCons (mCon (.int 8)) mNil)))))))) (sRet (mCon (.bool false))) sNil)) (sRet (mBin (eqF false) (mComp false (mZip (mCons (mVar 0) (mCons (mSl (slF false) (mVar 0) (mPart (mCon (.int 1))) mNoPart) mNil))) [1, 2] (tTup 2 (tCons (tName 1) (tCons (tName 2) tNil))) (mNot (mB (mBin (ordF .lt) (mBin ixF (mVar 1) (mCon (.int 0))) (mBin ixF (mVar 2) (mCon (.int 0)))))) (mCon (.int 1))) (mLst false mNil)))))
def F__law_are_rows : FnT := fnM 3 1 m__law_are_rows
theorem ok__law_are_rows (T : Txt g.K mg a fd) : FnG P w g.K mg base 2 (a 36) (fd 36) ["value"] (spF g F__law_are_rows) := fn_ok T.f__law_are_rows sc__law_are_rows fun cdv A outer s H E hr =>
  (rss_cons (rs_if (rt_not (rt_tru rfl (re_isi rfl rfl T.b_isinstance rfl (re_var (i := 0)) rfl T.b_tuple rfl))) (rss_one (rs_ret re_bl)) rss_nil)
    (rss_cons (rs_for (passes_of rfl) rfl (ri_any rfl (re_var (i := 0))) (rg_name (i := 1) sc__law_are_rows.nd) (rss_one (rs_if (PW.pt (rw_or (rt_not (rt_tru rfl (re_isi rfl rfl T.b_isinstance rfl (re_var (i := 1)) rfl T.b_tuple rfl))) (rw_or (rt_cmp (ro_ne rfl (un100 hr)) (re_callB (rc_len rfl) rfl T.b_len rfl (ra_cons (re_var (i := 1)) ra_nil)) re_int) (rw_or (rt_not (rt_tru rfl (re_call (takes_of rfl rfl rfl rfl) (ok__law_is_cells T) (hr.mono (by decide)) rfl T.g__law_is_cells T.f__law_is_cells.kp T.n__law_is_cells (ra_cons (re_ix rfl (un100 hr) (re_var (i := 1)) re_int) (ra_cons re_int ra_nil))))) (rw_or1 (rt_not (rt_tru rfl (re_call (takes_of rfl rfl rfl rfl) (ok__law_is_cells T) (hr.mono (by decide)) rfl T.g__law_is_cells T.f__law_is_cells.kp T.n__law_is_cells (ra_cons (re_ix rfl (un100 hr) (re_var (i := 1)) re_int) (ra_cons re_int ra_nil)))))))))) (rss_one (rs_ret re_bl)) rss_nil)))
    (rss_one (rs_ret (re_cmp (ro_eq rfl (un100 hr)) (re_lc (k := false) rfl sc__law_are_rows.nd (own := [("row", 1), ("later", 2)]) (blkOk_by (by rfl)) (ri_zip rfl rfl T.b_zip (ra_cons (re_var (i := 0)) (ra_cons (re_sl (slr rfl) (re_var (i := 0)) (ro_part re_int) ro_noPart) ra_nil))) (fun s H C cl fp => (rc_tup rfl rfl (rcs_cons (rc_name (i := 1) sc__law_are_rows.nd) (rcs_cons (rc_name (i := 2) sc__law_are_rows.nd) rcs_nil calm_nil) (calm_cons calm_name calm_nil)))) (fun s H C cl fp => (rts_one (rt_not (rt_cmp (ro_ord .lt rfl (un100 hr)) (re_ix rfl (un100 hr) (re_var (i := 1)) re_int) (re_ix rfl (un100 hr) (re_var (i := 2)) re_int))))) (fun s H C cl fp => re_int)) (re_lst (k := false) ra_nil))))))
theorem sc__law_near_cells : FnScope ["vat", "cells", "at", "bent", "found"] ["vat", "cells"] (defScope (top 37)) := ⟨rfl, rfl, rfl, by decide +kernel, rfl, by decide +kernel, by decide +kernel⟩
def m__law_near_cells : MS := (sSeq (sAsg (mCall F__law_drop (mCons (mVar 0) (mCons (mBin (addF false) (mCB (un lenW) (mCons (mVar 1) mNil)) (mCon (.int 1))) mNil))) (tName 2)) (sSeq (sAsg (mCall F__law_taste (mCons (mVar 0) (mCons (mLst false (mCons (mCon (.int 0)) (mCons (mCon (.int 1)) (mCons (mCon (.int 2)) (mCons (mCon (.int 3)) (mCons (mCon (.int 4)) (mCons (mCon (.int 8)) (mCons (mCon (.int 9)) (mCons (mBin subF (mBin powF (mCon (.int 10)) (mCon (.int 18))) (mCon (.int 1))) mNil))))))))) mNil))) (tName 3)) (sSeq (sAsg (mLst false (mCons (mBin (addF false) (mBin (addF false) (mSl (slF false) (mVar 1) mNoPart (mPart (mVar 2))) (mTup (mCons (mVar 3) mNil))) (mSl (slF false) (mVar 1) (mPart (mBin (addF false) (mVar 2) (mCon (.int 1)))) mNoPart)) (mCons (mSl (slF false) (mVar 1) mNoPart (mPart (mVar 2))) (mCons (mSl (slF false) (mVar 1) (mPart (mVar 2)) mNoPart) (mCons (mBin (addF false) (mSl (slF false) (mVar 1) mNoPart (mPart (mVar 2))) (mSl (slF false) (mVar 1) (mPart (mBin (addF false) (mVar 2) (mCon (.int 1)))) mNoPart)) (mCons (mBin (addF false) (mVar 1) (mVar 1)) mNil)))))) (tName 4)) (sRet (mBin (addF false) (mVar 4) (mLst false (mCons (mBin (addF false) (mBin (addF false) (mSl (slF false) (mVar 1) mNoPart (mPart (mVar 2))) (mTup (mCons (mVar 3) mNil))) (mSl (slF false) (mVar 1) (mPart (mVar 2)) mNoPart)) (mCons (mBin (addF false) (mVar 1) (mTup (mCons (mVar 3) mNil))) (mCons (mBack false (mVar 1)) (mCons (mCall F__law_cells (mCons (mVar 0) (mCons (mCon (.int 0)) (mCons (mCon (.int 9)) mNil)))) mNil))))))))))
def F__law_near_cells : FnT := fnM 5 2 m__law_near_cells
theorem ok__law_near_cells (T : Txt g.K mg a fd) : FnG P w g.K mg base 4 (a 37) (fd 37) ["vat", "cells"] (spF g F__law_near_cells) := fn_ok T.f__law_near_cells sc__law_near_cells fun cdv A outer s H E hr =>
  (rss_cons (rs_set sc__law_near_cells.nd (re_call (takes_of rfl rfl rfl rfl) (ok__law_drop T) (hr.mono (by decide)) rfl T.g__law_drop T.f__law_drop.kp T.n__law_drop (ra_cons (re_var (i := 0)) (ra_cons (re_bin (ro_add rfl) (re_callB (rc_len rfl) rfl T.b_len rfl (ra_cons (re_var (i := 1)) ra_nil)) re_int) ra_nil))))
    (rss_cons (rs_set sc__law_near_cells.nd (re_call (takes_of rfl rfl rfl rfl) (ok__law_taste T) (hr.mono (by decide)) rfl T.g__law_taste T.f__law_taste.kp T.n__law_taste (ra_cons (re_var (i := 0)) (ra_cons (re_lst (k := false) (ra_cons re_int (ra_cons re_int (ra_cons re_int (ra_cons re_int (ra_cons re_int (ra_cons re_int (ra_cons re_int (ra_cons (re_bin ro_sub (re_bin ro_pow re_int re_int) re_int) ra_nil))))))))) ra_nil))))
    (rss_cons (rs_set sc__law_near_cells.nd (re_lst (k := false) (ra_cons (re_bin (ro_add rfl) (re_bin (ro_add rfl) (re_sl (slr rfl) (re_var (i := 1)) ro_noPart (ro_part (re_var (i := 2)))) (re_tup (ra_cons (re_var (i := 3)) ra_nil))) (re_sl (slr rfl) (re_var (i := 1)) (ro_part (re_bin (ro_add rfl) (re_var (i := 2)) re_int)) ro_noPart)) (ra_cons (re_sl (slr rfl) (re_var (i := 1)) ro_noPart (ro_part (re_var (i := 2)))) (ra_cons (re_sl (slr rfl) (re_var (i := 1)) (ro_part (re_var (i := 2))) ro_noPart) (ra_cons (re_bin (ro_add rfl) (re_sl (slr rfl) (re_var (i := 1)) ro_noPart (ro_part (re_var (i := 2)))) (re_sl (slr rfl) (re_var (i := 1)) (ro_part (re_bin (ro_add rfl) (re_var (i := 2)) re_int)) ro_noPart)) (ra_cons (re_bin (ro_add rfl) (re_var (i := 1)) (re_var (i := 1))) ra_nil)))))))
    (rss_one (rs_ret (re_bin (ro_add rfl) (re_var (i := 4)) (re_lst (k := false) (ra_cons (re_bin (ro_add rfl) (re_bin (ro_add rfl) (re_sl (slr rfl) (re_var (i := 1)) ro_noPart (ro_part (re_var (i := 2)))) (re_tup (ra_cons (re_var (i := 3)) ra_nil))) (re_sl (slr rfl) (re_var (i := 1)) (ro_part (re_var (i := 2))) ro_noPart)) (ra_cons (re_bin (ro_add rfl) (re_var (i := 1)) (re_tup (ra_cons (re_var (i := 3)) ra_nil))) (ra_cons (re_back (k := false) rfl (re_var (i := 1))) (ra_cons (re_call (takes_of rfl rfl rfl rfl) (ok__law_cells T) (hr.mono (by decide)) rfl T.g__law_cells T.f__law_cells.kp T.n__law_cells (ra_cons (re_var (i := 0)) (ra_cons re_int (ra_cons re_int ra_nil)))) ra_nil)))))))))))
theorem sc__law_near_rows : FnScope ["vat", "rows", "found", "row", "at", "odd", "one", "cell"] ["vat", "rows"] (defScope (top 38)) := ⟨rfl, rfl, rfl, by decide +kernel, rfl, by decide +kernel, by decide +kernel⟩
def m__law_near_rows : MS := (sSeq (sAsg (mLst true (mCons (mVar 1) (mCons (mBack false (mVar 1)) (mCons (mBin (addF false) (mVar 1) (mVar 1)) (mCons (mCB (listF false) (mCons (mVar 1) mNil)) (mCons (mCon .none) (mCons (mTup mNil) (mCons (mDic0 false) (mCons (mCon (.int 5)) (mCons (mCon (.str "rows")) (mCons (mCB (dictKF) (mCons (mVarK 1) mNil)) (mCons (mTup (mCons (mTup (mCons (mTup (mCons (mCon (.int 1)) mNil)) (mCons (mTup (mCons (mCon (.int 2)) mNil)) mNil))) mNil)) (mCons (mTup (mCons (mTup (mCons (mCon (.int 1)) mNil)) (mCons (mTup (mCons (mCon (.int 2)) mNil)) mNil))) mNil))))))))))))) (tName 2)) (sSeq (sFor (mIt (mBin (addF false) (mSl (slF false) (mVar 1) mNoPart (mPart (mCon (.int 1)))) (mSl (slF false) (mVar 1) (mPart (mNeg (mCon (.int 1)))) mNoPart))) (tName 3) (sSeq (sAsg (mMtK idxF (mVarK 1) (mCons (mVar 3) mNil)) (tName 4)) (sSeq (sAsg (mLst true (mCons (mCB (listF false) (mCons (mVar 3) mNil)) (mCons (mBin (addF false) (mVar 3) (mVar 3)) (mCons (mSl (slF false) (mVar 3) mNoPart (mPart (mCon (.int 1)))) (mCons (mTup (mCons (mCB (listF false) (mCons (mBin ixF (mVar 3) (mCon (.int 0))) mNil)) (mCons (mBin ixF (mVar 3) (mCon (.int 1))) mNil))) (mCons (mTup (mCons (mBin ixF (mVar 3) (mCon (.int 0))) (mCons (mCB (listF false) (mCons (mBin ixF (mVar 3) (mCon (.int 1))) mNil)) mNil))) (mCons (mTup (mCons (mTup mNil) (mCons (mBin ixF (mVar 3) (mCon (.int 1))) mNil))) (mCons (mTup (mCons (mBin ixF (mVar 3) (mCon (.int 0))) (mCons (mTup mNil) mNil))) mNil)))))))) (tName 5)) (sSeq (sAsg (mBin (addF true) (mVar 5) (mLst false (mCons (mTup (mCons (mBin (addF false) (mBin ixF (mVar 3) (mCon (.int 0))) (mTup (mCons (mCon (.int 0)) (mCons (mCon (.int 0)) (mCons (mCon (.int 0)) mNil))))) (mCons (mBin ixF (mVar 3) (mCon (.int 1))) mNil))) (mCons (mTup (mCons (mBin ixF (mVar 3) (mCon (.int 0))) (mCons (mBin (addF false) (mBin ixF (mVar 3) (mCon (.int 1))) (mBin (mulF false) (mTup (mCons (mCon (.int 0)) mNil)) (mCon (.int 8)))) mNil))) (mCons (mTup (mCons (mBin (addF false) (mSl (slF false) (mBin ixF (mVar 3) (mCon (.int 0))) mNoPart (mPart (mNeg (mCon (.int 1))))) (mTup (mCons (mNeg (mCon (.int 1))) mNil))) (mCons (mBin ixF (mVar 3) (mCon (.int 1))) mNil))) (mCons (mCon .none) mNil)))))) (tName 5)) (sSeq (sAsg (mBin (addF true) (mVar 5) (mLst false (mCons (mTup (mCons (mBin ixF (mVar 3) (mCon (.int 0))) (mCons (mBin (addF false) (mSl (slF false) (mBin ixF (mVar 3) (mCon (.int 1))) mNoPart (mPart (mNeg (mCon (.int 1))))) (mTup (mCons (mBin powF (mCon (.int 10)) (mCon (.int 18))) mNil))) mNil))) (mCons (mTup (mCons (mBin ixF (mVar 3) (mCon (.int 0))) (mCons (mBin (addF false) (mSl (slF false) (mBin ixF (mVar 3) (mCon (.int 1))) mNoPart (mPart (mNeg (mCon (.int 1))))) (mTup (mCons (mCon .none) mNil))) mNil))) (mCons (mTup (mCons (mBin (addF false) (mSl (slF false) (mBin ixF (mVar 3) (mCon (.int 0))) mNoPart (mPart (mNeg (mCon (.int 1))))) (mTup (mCons (mCon (.str "1")) mNil))) (mCons (mBin ixF (mVar 3) (mCon (.int 1))) mNil))) mNil))))) (tName 5)) (sSeq (sDrop (mMt .lst appF (mVar 5) (mCons (mTup (mCons (mCB (tupleF) (mCons (mComp false (mIt (mBin ixF (mVar 3) (mCon (.int 0)))) [7] (tName 7) mYes (mIf (mB (mBin (inF false) (mVar 7) (mTup (mCons (mCon (.int 0)) (mCons (mCon (.int 1)) mNil))))) (mBin (eqF false) (mVar 7) (mCon (.int 1))) (mVar 7))) mNil)) (mCons (mBin ixF (mVar 3) (mCon (.int 1))) mNil))) mNil))) (sSeq (sDrop (mMt .lst appF (mVar 5) (mCons (mTup (mCons (mBin ixF (mVar 3) (mCon (.int 0))) (mCons (mCB (tupleF) (mCons (mComp false (mIt (mBin ixF (mVar 3) (mCon (.int 1)))) [7] (tName 7) mYes (mIf (mB (mBin (inF false) (mVar 7) (mTup (mCons (mCon (.int 0)) (mCons (mCon (.int 1)) mNil))))) (mBin (eqF false) (mVar 7) (mCon (.int 1))) (mVar 7))) mNil)) mNil))) mNil))) (sDrop (mMt .lst extF (mVar 2) (mCons (mComp false (mIt (mVar 5)) [6] (tName 6) mYes (mBin (addF false) (mBin (addF false) (mSl (slF false) (mVar 1) mNoPart (mPart (mVar 4))) (mTup (mCons (mVar 6) mNil))) (mSl (slF false) (mVar 1) (mPart (mBin (addF false) (mVar 4) (mCon (.int 1)))) mNoPart))) mNil)))))))))) (sRet (mVar 2))))
def F__law_near_rows : FnT := fnM 8 2 m__law_near_rows
theorem ok__law_near_rows (T : Txt g.K mg a fd) : FnG P w g.K mg base 1 (a 38) (fd 38) ["vat", "rows"] (spF g F__law_near_rows) := fn_ok T.f__law_near_rows sc__law_near_rows fun cdv A outer s H E hr =>
  (rss_cons (rs_set sc__law_near_rows.nd (re_lst (k := true) (ra_cons (re_var (i := 1)) (ra_cons (re_back (k := false) rfl (re_var (i := 1))) (ra_cons (re_bin (ro_add rfl) (re_var (i := 1)) (re_var (i := 1))) (ra_cons (re_callTy (rc_list rfl) rfl T.b_list rfl (ra_cons (re_var (i := 1)) ra_nil)) (ra_cons re_non (ra_cons (re_tup ra_nil) (ra_cons (re_dic0 (k := false)) (ra_cons re_int (ra_cons re_str (ra_cons (re_callTy (rc_dictK rfl rfl (un100 hr)) rfl T.b_dict rfl (ra_cons (re_varK (i := 1)) ra_nil)) (ra_cons (re_tup (ra_cons (re_tup (ra_cons (re_tup (ra_cons re_int ra_nil)) (ra_cons (re_tup (ra_cons re_int ra_nil)) ra_nil))) ra_nil)) (ra_cons (re_tup (ra_cons (re_tup (ra_cons re_int ra_nil)) (ra_cons (re_tup (ra_cons re_int ra_nil)) ra_nil))) ra_nil))))))))))))))
    (rss_cons (rs_for (passes_of rfl) rfl (ri_any rfl (re_bin (ro_add rfl) (re_sl (slr rfl) (re_var (i := 1)) ro_noPart (ro_part re_int)) (re_sl (slr rfl) (re_var (i := 1)) (ro_part (re_neg re_int)) ro_noPart))) (rg_name (i := 3) sc__law_near_rows.nd) (rss_cons (rs_set sc__law_near_rows.nd (re_mtK rfl PySem.F.plainAttrs_tuple PySem.F.slot_tuple_index PySem.F.type_tuple_index (mt_idx rfl (un100 hr)) (re_varK (i := 1)) (ra_cons (re_var (i := 3)) ra_nil)))
    (rss_cons (rs_set sc__law_near_rows.nd (re_lst (k := true) (ra_cons (re_callTy (rc_list rfl) rfl T.b_list rfl (ra_cons (re_var (i := 3)) ra_nil)) (ra_cons (re_bin (ro_add rfl) (re_var (i := 3)) (re_var (i := 3))) (ra_cons (re_sl (slr rfl) (re_var (i := 3)) ro_noPart (ro_part re_int)) (ra_cons (re_tup (ra_cons (re_callTy (rc_list rfl) rfl T.b_list rfl (ra_cons (re_ix rfl (un100 hr) (re_var (i := 3)) re_int) ra_nil)) (ra_cons (re_ix rfl (un100 hr) (re_var (i := 3)) re_int) ra_nil))) (ra_cons (re_tup (ra_cons (re_ix rfl (un100 hr) (re_var (i := 3)) re_int) (ra_cons (re_callTy (rc_list rfl) rfl T.b_list rfl (ra_cons (re_ix rfl (un100 hr) (re_var (i := 3)) re_int) ra_nil)) ra_nil))) (ra_cons (re_tup (ra_cons (re_tup ra_nil) (ra_cons (re_ix rfl (un100 hr) (re_var (i := 3)) re_int) ra_nil))) (ra_cons (re_tup (ra_cons (re_ix rfl (un100 hr) (re_var (i := 3)) re_int) (ra_cons (re_tup ra_nil) ra_nil))) ra_nil)))))))))
    (rss_cons (rs_set sc__law_near_rows.nd (re_bin (ro_add rfl) (re_var (i := 5)) (re_lst (k := false) (ra_cons (re_tup (ra_cons (re_bin (ro_add rfl) (re_ix rfl (un100 hr) (re_var (i := 3)) re_int) (re_tup (ra_cons re_int (ra_cons re_int (ra_cons re_int ra_nil))))) (ra_cons (re_ix rfl (un100 hr) (re_var (i := 3)) re_int) ra_nil))) (ra_cons (re_tup (ra_cons (re_ix rfl (un100 hr) (re_var (i := 3)) re_int) (ra_cons (re_bin (ro_add rfl) (re_ix rfl (un100 hr) (re_var (i := 3)) re_int) (re_bin (ro_mul rfl) (re_tup (ra_cons re_int ra_nil)) re_int)) ra_nil))) (ra_cons (re_tup (ra_cons (re_bin (ro_add rfl) (re_sl (slr rfl) (re_ix rfl (un100 hr) (re_var (i := 3)) re_int) ro_noPart (ro_part (re_neg re_int))) (re_tup (ra_cons (re_neg re_int) ra_nil))) (ra_cons (re_ix rfl (un100 hr) (re_var (i := 3)) re_int) ra_nil))) (ra_cons re_non ra_nil)))))))
    (rss_cons (rs_set sc__law_near_rows.nd (re_bin (ro_add rfl) (re_var (i := 5)) (re_lst (k := false) (ra_cons (re_tup (ra_cons (re_ix rfl (un100 hr) (re_var (i := 3)) re_int) (ra_cons (re_bin (ro_add rfl) (re_sl (slr rfl) (re_ix rfl (un100 hr) (re_var (i := 3)) re_int) ro_noPart (ro_part (re_neg re_int))) (re_tup (ra_cons (re_bin ro_pow re_int re_int) ra_nil))) ra_nil))) (ra_cons (re_tup (ra_cons (re_ix rfl (un100 hr) (re_var (i := 3)) re_int) (ra_cons (re_bin (ro_add rfl) (re_sl (slr rfl) (re_ix rfl (un100 hr) (re_var (i := 3)) re_int) ro_noPart (ro_part (re_neg re_int))) (re_tup (ra_cons re_non ra_nil))) ra_nil))) (ra_cons (re_tup (ra_cons (re_bin (ro_add rfl) (re_sl (slr rfl) (re_ix rfl (un100 hr) (re_var (i := 3)) re_int) ro_noPart (ro_part (re_neg re_int))) (re_tup (ra_cons re_str ra_nil))) (ra_cons (re_ix rfl (un100 hr) (re_var (i := 3)) re_int) ra_nil))) ra_nil))))))
    (rss_cons (rs_expr (re_mt rfl (T := .lst) PySem.F.plainAttrs_list PySem.F.slot_list_append PySem.F.type_list_append (mt_app) (re_var (i := 5)) (ra_cons (re_tup (ra_cons (re_callTy (rc_tuple rfl) rfl T.b_tuple rfl (ra_cons (re_lc (k := false) rfl sc__law_near_rows.nd (own := [("cell", 7)]) (blkOk_by (by rfl)) (ri_any rfl (re_ix rfl (un100 hr) (re_var (i := 3)) re_int)) (fun s H C cl fp => (rc_name (i := 7) sc__law_near_rows.nd)) (fun s H C cl fp => rts_nil) (fun s H C cl fp => (re_ife (rt_cmp (ro_in rfl (un100 hr)) (re_var (i := 7)) (re_tup (ra_cons re_int (ra_cons re_int ra_nil)))) (re_cmp (ro_eq rfl (un100 hr)) (re_var (i := 7)) re_int) (re_var (i := 7))))) ra_nil)) (ra_cons (re_ix rfl (un100 hr) (re_var (i := 3)) re_int) ra_nil))) ra_nil)))
    (rss_cons (rs_expr (re_mt rfl (T := .lst) PySem.F.plainAttrs_list PySem.F.slot_list_append PySem.F.type_list_append (mt_app) (re_var (i := 5)) (ra_cons (re_tup (ra_cons (re_ix rfl (un100 hr) (re_var (i := 3)) re_int) (ra_cons (re_callTy (rc_tuple rfl) rfl T.b_tuple rfl (ra_cons (re_lc (k := false) rfl sc__law_near_rows.nd (own := [("cell", 7)]) (blkOk_by (by rfl)) (ri_any rfl (re_ix rfl (un100 hr) (re_var (i := 3)) re_int)) (fun s H C cl fp => (rc_name (i := 7) sc__law_near_rows.nd)) (fun s H C cl fp => rts_nil) (fun s H C cl fp => (re_ife (rt_cmp (ro_in rfl (un100 hr)) (re_var (i := 7)) (re_tup (ra_cons re_int (ra_cons re_int ra_nil)))) (re_cmp (ro_eq rfl (un100 hr)) (re_var (i := 7)) re_int) (re_var (i := 7))))) ra_nil)) ra_nil))) ra_nil)))
    (rss_one (rs_expr (re_mt rfl (T := .lst) PySem.F.plainAttrs_list PySem.F.slot_list_extend PySem.F.type_list_extend (mt_ext) (re_var (i := 2)) (ra_cons (re_lc (k := false) rfl sc__law_near_rows.nd (own := [("one", 6)]) (blkOk_by (by rfl)) (ri_any rfl (re_var (i := 5))) (fun s H C cl fp => (rc_name (i := 6) sc__law_near_rows.nd)) (fun s H C cl fp => rts_nil) (fun s H C cl fp => (re_bin (ro_add rfl) (re_bin (ro_add rfl) (re_sl (slr rfl) (re_var (i := 1)) ro_noPart (ro_part (re_var (i := 4)))) (re_tup (ra_cons (re_var (i := 6)) ra_nil))) (re_sl (slr rfl) (re_var (i := 1)) (ro_part (re_bin (ro_add rfl) (re_var (i := 4)) re_int)) ro_noPart)))) ra_nil)))))))))))
    (rss_one (rs_ret (re_var (i := 2))))))
theorem sc__law_right : FnScope ["vat", "rows", "cells", "near", "value", "key", "one"] ["vat"] (defScope (top 39)) := ⟨rfl, rfl, rfl, by decide +kernel, rfl, by decide +kernel, by decide +kernel⟩
def m__law_right : MS := (sSeq (sAsg (mCall F__law_rows (mCons (mVar 0) (mCons (mCon (.int 12)) mNil))) (tName 1)) (sSeq (sAsg (mCall F__law_own_cells (mCons (mVar 1) mNil)) (tName 2)) (sSeq (sIf (mOr (mB (mBin (eqF true) (mCall F_rows_cells (mCons (mVar 1) mNil)) (mVar 2))) (mOr (mB (mBin (eqF true) (mCall F_rows_told (mCons (mVar 2) mNil)) (mVar 1))) (mB (mBin (eqF true) (mCall F__law_read (mCons (mVar 2) mNil)) (mVar 1))))) (sRet (mCon (.bool false))) sNil) (sSeq (sFor (mIt (mVar 1)) (tTup 2 (tCons (tName 5) (tCons (tName 4) tNil))) (sIf (mB (mBin (eqF true) (mCall F_row_cells (mCons (mVar 5) (mCons (mVar 4) mNil))) (mCall F__law_own_cells (mCons (mTup (mCons (mTup (mCons (mVar 5) (mCons (mVar 4) mNil))) mNil)) mNil)))) (sRet (mCon (.bool false))) sNil)) (sSeq (sFor (mIt (mCall F__law_near_cells (mCons (mVar 0) (mCons (mVar 2) mNil)))) (tName 3) (sIf (mB (mBin (eqF true) (mCall F_rows_told (mCons (mVar 3) mNil)) (mCall F__law_read (mCons (mVar 3) mNil)))) (sRet (mCon (.bool false))) sNil)) (sSeq (sFor (mIt (mCall F__law_near_rows (mCons (mVar 0) (mCons (mVarK 1) mNil)))) (tName 4) (sSeq (sIf (mB (mBin (eqF true) (mCB (reprF) (mCons (mCall F_are_rows (mCons (mVar 4) mNil)) mNil)) (mCB (reprF) (mCons (mCall F__law_are_rows (mCons (mVar 4) mNil)) mNil)))) (sRet (mCon (.bool false))) sNil) (sFor (mIt (mIf (mTru (mIsi "tuple" (mVar 4))) (mVar 4) (mTup mNil))) (tName 6) (sIf (mB (mBin (eqF true) (mCB (reprF) (mCons (mLst false (mCons (mCall F_is_key (mCons (mVar 6) mNil)) (mCons (mCall F_is_row_value (mCons (mVar 6) mNil)) mNil))) mNil)) (mCB (reprF) (mCons (mLst false (mCons (mCall F__law_is_cells (mCons (mVar 6) (mCons (mCon (.int 3)) mNil))) (mCons (mCall F__law_is_cells (mCons (mVar 6) (mCons (mCon (.int 8)) mNil))) mNil))) mNil)))) (sRet (mCon (.bool false))) sNil)))) (sRet (mCon (.bool true)))))))))
def F__law_right : FnT := fnM 7 1 m__law_right
theorem ok__law_right (T : Txt g.K mg a fd) : FnG P w g.K mg base 8 (a 39) (fd 39) ["vat"] (spF g F__law_right) := fn_ok T.f__law_right sc__law_right fun cdv A outer s H E hr =>
  (rss_cons (rs_set sc__law_right.nd (re_call (takes_of rfl rfl rfl rfl) (ok__law_rows T) (hr.mono (by decide)) rfl T.g__law_rows T.f__law_rows.kp T.n__law_rows (ra_cons (re_var (i := 0)) (ra_cons re_int ra_nil))))
    (rss_cons (rs_set sc__law_right.nd (re_call (takes_of rfl rfl rfl rfl) (ok__law_own_cells T) (hr.mono (by decide)) rfl T.g__law_own_cells T.f__law_own_cells.kp T.n__law_own_cells (ra_cons (re_var (i := 1)) ra_nil)))
    (rss_cons (rs_if (PW.pt (rw_or (rt_cmp (ro_ne rfl (un100 hr)) (re_call (takes_of rfl rfl rfl rfl) (ok_rows_cells T) (hr.mono (by decide)) rfl T.g_rows_cells T.f_rows_cells.kp T.n_rows_cells (ra_cons (re_var (i := 1)) ra_nil)) (re_var (i := 2))) (rw_or (rt_cmp (ro_ne rfl (un100 hr)) (re_call (takes_of rfl rfl rfl rfl) (ok_rows_told T) (hr.mono (by decide)) rfl T.g_rows_told T.f_rows_told.kp T.n_rows_told (ra_cons (re_var (i := 2)) ra_nil)) (re_var (i := 1))) (rw_or1 (rt_cmp (ro_ne rfl (un100 hr)) (re_call (takes_of rfl rfl rfl rfl) (ok__law_read T) (hr.mono (by decide)) rfl T.g__law_read T.f__law_read.kp T.n__law_read (ra_cons (re_var (i := 2)) ra_nil)) (re_var (i := 1))))))) (rss_one (rs_ret re_bl)) rss_nil)
    (rss_cons (rs_for (passes_of rfl) rfl (ri_any rfl (re_var (i := 1))) (rg_tup rfl rfl (rgs_cons (rg_name (i := 5) sc__law_right.nd) (rgs_cons (rg_name (i := 4) sc__law_right.nd) rgs_nil calm_nil) (calm_cons calm_name calm_nil))) (rss_one (rs_if (rt_cmp (ro_ne rfl (un100 hr)) (re_call (takes_of rfl rfl rfl rfl) (ok_row_cells T) (hr.mono (by decide)) rfl T.g_row_cells T.f_row_cells.kp T.n_row_cells (ra_cons (re_var (i := 5)) (ra_cons (re_var (i := 4)) ra_nil))) (re_call (takes_of rfl rfl rfl rfl) (ok__law_own_cells T) (hr.mono (by decide)) rfl T.g__law_own_cells T.f__law_own_cells.kp T.n__law_own_cells (ra_cons (re_tup (ra_cons (re_tup (ra_cons (re_var (i := 5)) (ra_cons (re_var (i := 4)) ra_nil))) ra_nil)) ra_nil))) (rss_one (rs_ret re_bl)) rss_nil)))
    (rss_cons (rs_for (passes_of rfl) rfl (ri_any rfl (re_call (takes_of rfl rfl rfl rfl) (ok__law_near_cells T) (hr.mono (by decide)) rfl T.g__law_near_cells T.f__law_near_cells.kp T.n__law_near_cells (ra_cons (re_var (i := 0)) (ra_cons (re_var (i := 2)) ra_nil)))) (rg_name (i := 3) sc__law_right.nd) (rss_one (rs_if (rt_cmp (ro_ne rfl (un100 hr)) (re_call (takes_of rfl rfl rfl rfl) (ok_rows_told T) (hr.mono (by decide)) rfl T.g_rows_told T.f_rows_told.kp T.n_rows_told (ra_cons (re_var (i := 3)) ra_nil)) (re_call (takes_of rfl rfl rfl rfl) (ok__law_read T) (hr.mono (by decide)) rfl T.g__law_read T.f__law_read.kp T.n__law_read (ra_cons (re_var (i := 3)) ra_nil))) (rss_one (rs_ret re_bl)) rss_nil)))
    (rss_cons (rs_for (passes_of rfl) rfl (ri_any rfl (re_call (takes_of rfl rfl rfl rfl) (ok__law_near_rows T) (hr.mono (by decide)) rfl T.g__law_near_rows T.f__law_near_rows.kp T.n__law_near_rows (ra_cons (re_var (i := 0)) (ra_cons (re_varK (i := 1)) ra_nil)))) (rg_name (i := 4) sc__law_right.nd) (rss_cons (rs_if (rt_cmp (ro_ne rfl (un100 hr)) (re_callB (rc_repr rfl hr.gd (un100 hr)) rfl T.b_repr rfl (ra_cons (re_call (takes_of rfl rfl rfl rfl) (ok_are_rows T) (hr.mono (by decide)) rfl T.g_are_rows T.f_are_rows.kp T.n_are_rows (ra_cons (re_var (i := 4)) ra_nil)) ra_nil)) (re_callB (rc_repr rfl hr.gd (un100 hr)) rfl T.b_repr rfl (ra_cons (re_call (takes_of rfl rfl rfl rfl) (ok__law_are_rows T) (hr.mono (by decide)) rfl T.g__law_are_rows T.f__law_are_rows.kp T.n__law_are_rows (ra_cons (re_var (i := 4)) ra_nil)) ra_nil))) (rss_one (rs_ret re_bl)) rss_nil)
    (rss_one (rs_for (passes_of rfl) rfl (ri_any rfl (re_ife (rt_tru rfl (re_isi rfl rfl T.b_isinstance rfl (re_var (i := 4)) rfl T.b_tuple rfl)) (re_var (i := 4)) (re_tup ra_nil))) (rg_name (i := 6) sc__law_right.nd) (rss_one (rs_if (rt_cmp (ro_ne rfl (un100 hr)) (re_callB (rc_repr rfl hr.gd (un100 hr)) rfl T.b_repr rfl (ra_cons (re_lst (k := false) (ra_cons (re_call (takes_of rfl rfl rfl rfl) (ok_is_key T) (hr.mono (by decide)) rfl T.g_is_key T.f_is_key.kp T.n_is_key (ra_cons (re_var (i := 6)) ra_nil)) (ra_cons (re_call (takes_of rfl rfl rfl rfl) (ok_is_row_value T) (hr.mono (by decide)) rfl T.g_is_row_value T.f_is_row_value.kp T.n_is_row_value (ra_cons (re_var (i := 6)) ra_nil)) ra_nil))) ra_nil)) (re_callB (rc_repr rfl hr.gd (un100 hr)) rfl T.b_repr rfl (ra_cons (re_lst (k := false) (ra_cons (re_call (takes_of rfl rfl rfl rfl) (ok__law_is_cells T) (hr.mono (by decide)) rfl T.g__law_is_cells T.f__law_is_cells.kp T.n__law_is_cells (ra_cons (re_var (i := 6)) (ra_cons re_int ra_nil))) (ra_cons (re_call (takes_of rfl rfl rfl rfl) (ok__law_is_cells T) (hr.mono (by decide)) rfl T.g__law_is_cells T.f__law_is_cells.kp T.n__law_is_cells (ra_cons (re_var (i := 6)) (ra_cons re_int ra_nil))) ra_nil))) ra_nil))) (rss_one (rs_ret re_bl)) rss_nil))))))
    (rss_one (rs_ret re_bl))))))))
theorem sc_law : FnScope ["script", "spot", "told", "keys", "vat", "key"] ["script"] (defScope (top 40)) := ⟨rfl, rfl, rfl, by decide +kernel, rfl, by decide +kernel, by decide +kernel⟩
def m_law : MS := (sSeq (sFor (mRng1 (mCons (mCB (max2F) (mCons (mCon (.int 1)) (mCons (mCB (min2F) (mCons (mCon (.int 3)) (mCons (mCB (un lenW) (mCons (mVar 0) mNil)) mNil))) mNil))) mNil)) (tName 1) (sSeq (sAsg (mCall F__law_vat (mCons (mVar 0) (mCons (mVar 1) mNil))) (tName 4)) (sIf (mOr (mNot (mTru (mCall F__law_right (mCons (mVar 4) mNil)))) (mNot (mTru (mCall F__law_right (mCons (mVar 4) mNil))))) (sRet (mCon (.bool false))) sNil))) (sSeq (sAsg (mLst false (mCons (mCall F_row_cells (mCons (mTup (mCons (mCon (.int 2)) (mCons (mCon (.int 0)) (mCons (mCon (.int 7)) mNil)))) (mCons (mTup (mCons (mCon (.int 16)) mNil)) mNil))) (mCons (mCall F_rows_told (mCons (mTup (mCons (mCon (.int 1)) (mCons (mCon (.int 5)) (mCons (mCon (.int 1)) (mCons (mCon (.int 6)) (mCons (mCon (.int 2)) (mCons (mCon (.int 5)) (mCons (mCon (.int 0)) (mCons (mCon (.int 1)) (mCons (mCon (.int 6)) mNil)))))))))) mNil)) (mCons (mCall F_rows_told (mCons (mBin (mulF false) (mTup (mCons (mCon (.int 1)) (mCons (mCon (.int 5)) (mCons (mCon (.int 1)) (mCons (mCon (.int 6)) mNil))))) (mCon (.int 2))) mNil)) (mCons (mCall F_rows_told (mCons (mTup mNil) mNil)) mNil))))) (tName 2)) (sSeq (sIf (mB (mBin (eqF true) (mVar 2) (mLst false (mCons (mTup (mCons (mCon (.int 3)) (mCons (mCon (.int 2)) (mCons (mCon (.int 0)) (mCons (mCon (.int 7)) (mCons (mCon (.int 1)) (mCons (mCon (.int 16)) mNil))))))) (mCons (mTup (mCons (mTup (mCons (mTup (mCons (mCon (.int 5)) mNil)) (mCons (mTup (mCons (mCon (.int 6)) mNil)) mNil))) (mCons (mTup (mCons (mTup (mCons (mCon (.int 5)) (mCons (mCon (.int 0)) mNil))) (mCons (mTup (mCons (mCon (.int 6)) mNil)) mNil))) mNil))) (mCons (mCon .none) (mCons (mTup mNil) mNil))))))) (sRet (mCon (.bool false))) sNil) (sSeq (sAsg (mLst false (mCons (mTup mNil) (mCons (mTup (mCons (mCon (.int 1)) mNil)) (mCons (mTup (mCons (mCon (.int 1)) (mCons (mCon (.int 2)) (mCons (mCon (.int 3)) mNil)))) (mCons (mTup (mCons (mCon (.int 1)) (mCons (mCon (.int 2)) (mCons (mCon (.int 3)) (mCons (mCon (.int 4)) mNil))))) (mCons (mLst false (mCons (mCon (.int 1)) mNil)) (mCons (mTup (mCons (mCon (.bool true)) mNil)) (mCons (mTup (mCons (mBin powF (mCon (.int 10)) (mCon (.int 18))) mNil)) (mCons (mCon .none) mNil))))))))) (tName 3)) (sRet (mBin (eqF false) (mComp false (mIt (mVar 3)) [5] (tName 5) mYes (mCall F_is_key (mCons (mVar 5) mNil))) (mLst false (mCons (mCon (.bool false)) (mCons (mCon (.bool true)) (mCons (mCon (.bool true)) (mCons (mCon (.bool false)) (mCons (mCon (.bool false)) (mCons (mCon (.bool false)) (mCons (mCon (.bool false)) (mCons (mCon (.bool false)) mNil)))))))))))))))
def F_law : FnT := fnM 6 1 m_law
theorem ok_law (T : Txt g.K mg a fd) : FnG P w g.K mg base 9 (a 40) (fd 40) ["script"] (spF g F_law) := fn_ok T.f_law sc_law fun cdv A outer s H E hr =>
  (rss_cons (rs_for (passes_of rfl) rfl (ri_range1 rfl T.b_range (ra_cons (re_callB (rc_max2 rfl) rfl T.b_max rfl (ra_cons re_int (ra_cons (re_callB (rc_min2 rfl) rfl T.b_min rfl (ra_cons re_int (ra_cons (re_callB (rc_len rfl) rfl T.b_len rfl (ra_cons (re_var (i := 0)) ra_nil)) ra_nil))) ra_nil))) ra_nil)) (rg_name (i := 1) sc_law.nd) (rss_cons (rs_set sc_law.nd (re_call (takes_of rfl rfl rfl rfl) (ok__law_vat T) (hr.mono (by decide)) rfl T.g__law_vat T.f__law_vat.kp T.n__law_vat (ra_cons (re_var (i := 0)) (ra_cons (re_var (i := 1)) ra_nil))))
    (rss_one (rs_if (PW.pt (rw_or (rt_not (rt_tru rfl (re_call (takes_of rfl rfl rfl rfl) (ok__law_right T) (hr.mono (by decide)) rfl T.g__law_right T.f__law_right.kp T.n__law_right (ra_cons (re_var (i := 4)) ra_nil)))) (rw_or1 (rt_not (rt_tru rfl (re_call (takes_of rfl rfl rfl rfl) (ok__law_right T) (hr.mono (by decide)) rfl T.g__law_right T.f__law_right.kp T.n__law_right (ra_cons (re_var (i := 4)) ra_nil))))))) (rss_one (rs_ret re_bl)) rss_nil))))
    (rss_cons (rs_set sc_law.nd (re_lst (k := false) (ra_cons (re_call (takes_of rfl rfl rfl rfl) (ok_row_cells T) (hr.mono (by decide)) rfl T.g_row_cells T.f_row_cells.kp T.n_row_cells (ra_cons (re_tup (ra_cons re_int (ra_cons re_int (ra_cons re_int ra_nil)))) (ra_cons (re_tup (ra_cons re_int ra_nil)) ra_nil))) (ra_cons (re_call (takes_of rfl rfl rfl rfl) (ok_rows_told T) (hr.mono (by decide)) rfl T.g_rows_told T.f_rows_told.kp T.n_rows_told (ra_cons (re_tup (ra_cons re_int (ra_cons re_int (ra_cons re_int (ra_cons re_int (ra_cons re_int (ra_cons re_int (ra_cons re_int (ra_cons re_int (ra_cons re_int ra_nil)))))))))) ra_nil)) (ra_cons (re_call (takes_of rfl rfl rfl rfl) (ok_rows_told T) (hr.mono (by decide)) rfl T.g_rows_told T.f_rows_told.kp T.n_rows_told (ra_cons (re_bin (ro_mul rfl) (re_tup (ra_cons re_int (ra_cons re_int (ra_cons re_int (ra_cons re_int ra_nil))))) re_int) ra_nil)) (ra_cons (re_call (takes_of rfl rfl rfl rfl) (ok_rows_told T) (hr.mono (by decide)) rfl T.g_rows_told T.f_rows_told.kp T.n_rows_told (ra_cons (re_tup ra_nil) ra_nil)) ra_nil))))))
    (rss_cons (rs_if (rt_cmp (ro_ne rfl (un100 hr)) (re_var (i := 2)) (re_lst (k := false) (ra_cons (re_tup (ra_cons re_int (ra_cons re_int (ra_cons re_int (ra_cons re_int (ra_cons re_int (ra_cons re_int ra_nil))))))) (ra_cons (re_tup (ra_cons (re_tup (ra_cons (re_tup (ra_cons re_int ra_nil)) (ra_cons (re_tup (ra_cons re_int ra_nil)) ra_nil))) (ra_cons (re_tup (ra_cons (re_tup (ra_cons re_int (ra_cons re_int ra_nil))) (ra_cons (re_tup (ra_cons re_int ra_nil)) ra_nil))) ra_nil))) (ra_cons re_non (ra_cons (re_tup ra_nil) ra_nil)))))) (rss_one (rs_ret re_bl)) rss_nil)
    (rss_cons (rs_set sc_law.nd (re_lst (k := false) (ra_cons (re_tup ra_nil) (ra_cons (re_tup (ra_cons re_int ra_nil)) (ra_cons (re_tup (ra_cons re_int (ra_cons re_int (ra_cons re_int ra_nil)))) (ra_cons (re_tup (ra_cons re_int (ra_cons re_int (ra_cons re_int (ra_cons re_int ra_nil))))) (ra_cons (re_lst (k := false) (ra_cons re_int ra_nil)) (ra_cons (re_tup (ra_cons re_bl ra_nil)) (ra_cons (re_tup (ra_cons (re_bin ro_pow re_int re_int) ra_nil)) (ra_cons re_non ra_nil))))))))))
    (rss_one (rs_ret (re_cmp (ro_eq rfl (un100 hr)) (re_lc (k := false) rfl sc_law.nd (own := [("key", 5)]) (blkOk_by (by rfl)) (ri_any rfl (re_var (i := 3))) (fun s H C cl fp => (rc_name (i := 5) sc_law.nd)) (fun s H C cl fp => rts_nil) (fun s H C cl fp => (re_call takes0 (ok_is_key T) (hr.mono (by decide)) rfl T.g_is_key T.f_is_key.kp T.n_is_key (ra_cons (re_var (i := 5)) ra_nil)))) (re_lst (k := false) (ra_cons re_bl (ra_cons re_bl (ra_cons re_bl (ra_cons re_bl (ra_cons re_bl (ra_cons re_bl (ra_cons re_bl (ra_cons re_bl ra_nil))))))))))))))))
end

end V
set_option maxHeartbeats 4000000
namespace V
open PySem L2 PyProof.Rows Rf

/-! ### evaluation -/
theorem popR_ok {b : Nat} {w : W} {S : Store} (h : w.und b = true) : popR b (.ok w S) = .ok w (S.take b) := by simp [popR, h]
@[simp] theorem popR_dat {d : PyData} {S : Store} : popR S.length (.ok (.dat d) S) = .ok (.dat d) S := by rw [popR_ok rfl, List.take_length]
theorem fnM_eq {n p : Nat} {m : MS} {bs : List Nat} {ws : List W} {S : Store} (h : ws.length = p) : fnM n p m bs ws S = popR S.length (m (S.length :: bs) (startE n ws) S).out := by simp [fnM, h]
@[simp] theorem out_rt {w : W} {S : Store} : (SO.rt w S).out = .ok w S := rfl
@[simp] theorem out_nx {e : Rf.Env} {S : Store} : (SO.nx e S).out = .ok .non S := rfl
@[simp] theorem so_ok {α : Type} {a : α} {S : Store} {env : Rf.Env} {f : α → Store → SO} : (Out.ok a S).so env f = f a S := rfl
@[simp] theorem then_nx {e : Rf.Env} {S : Store} {f : Rf.Env → Store → SO} : (SO.nx e S).andThen f = f e S := rfl
@[simp] theorem then_rt {w : W} {S : Store} {f : Rf.Env → Store → SO} : (SO.rt w S).andThen f = .rt w S := rfl
@[simp] theorem turn_nx {e : Rf.Env} {S : Store} {f : Rf.Env → Store → SO} : (SO.nx e S).turn f = f e S := rfl
@[simp] theorem turn_rt {w : W} {S : Store} {f : Rf.Env → Store → SO} : (SO.rt w S).turn f = .rt w S := rfl

theorem kb1 : kitB "int" "int" = some true := by decide +kernel
theorem kb2 : kitB "bool" "int" = some true := by decide +kernel
theorem kb3 : kitB "str" "int" = some false := by decide +kernel
theorem kb4 : kitB "NoneType" "int" = some false := by decide +kernel
theorem kb5 : kitB "list" "int" = some false := by decide +kernel
theorem kb6 : kitB "tuple" "int" = some false := by decide +kernel
theorem kb7 : kitB "dict" "int" = some false := by decide +kernel
theorem kc1 : kitB "int" "bool" = some false := by decide +kernel
theorem kc2 : kitB "bool" "bool" = some true := by decide +kernel
theorem kc3 : kitB "str" "bool" = some false := by decide +kernel
theorem kc4 : kitB "NoneType" "bool" = some false := by decide +kernel
theorem kc5 : kitB "list" "bool" = some false := by decide +kernel
theorem kc6 : kitB "tuple" "bool" = some false := by decide +kernel
theorem kc7 : kitB "dict" "bool" = some false := by decide +kernel
theorem kt1 : kitB "int" "tuple" = some false := by decide +kernel
theorem kt2 : kitB "bool" "tuple" = some false := by decide +kernel
theorem kt3 : kitB "str" "tuple" = some false := by decide +kernel
theorem kt4 : kitB "NoneType" "tuple" = some false := by decide +kernel
theorem kt5 : kitB "list" "tuple" = some false := by decide +kernel
theorem kt6 : kitB "tuple" "tuple" = some true := by decide +kernel
theorem kt7 : kitB "dict" "tuple" = some false := by decide +kernel

def isCell : PyData → Bool
  | .int i => decide (0 ≤ i) && decide (i ≤ 999999999999999999)
  | _ => false
theorem ev_is_cell (bs : List Nat) (d : PyData) (S : Store) : F_is_cell bs [.dat d] S = .ok (.bl (isCell d)) S := by
  unfold F_is_cell
  rw [fnM_eq (by rfl)]
  cases d <;> simp [m_is_cell, sRet, mAndV, mNotV, mIsi, mVar, mChain, mCon, startE, isiW, tyW, kb1, kb2, kb3, kb4, kb5, kb6, kb7, kc1, kc2, kc3, kc4, kc5, kc6, kc7, truW, ordF, isCell, Ord.int]
  rename_i i
  by_cases h : 0 ≤ i <;> simp [h]
end V

set_option maxHeartbeats 4000000
namespace V
open PySem L2 PyProof.Rows Rf

/-! ### loops over items -/
@[simp] theorem next_items {ws : List W} {i : Nat} {S : Store} : (Iter.items ws).next i S = some ws[i]? := rfl
/-- a comprehension whose turns change nothing -/
theorem compG_pure {ws : List W} {t : TM} {c : M Bool} {e : M W} {bs : List Nat} {S : Store} {env : Rf.Env} (en : W → Rf.Env) (g : W → Option W)
    (ht : ∀ w ∈ ws, t w bs env S = .ok (en w) S) (hc : ∀ w ∈ ws, c bs (en w) S = .ok (g w).isSome S) (he : ∀ w ∈ ws, ∀ y, g w = some y → e bs (en w) S = .ok y S) :
    ∀ (rest : List W) (i : Nat) (acc : List W), rest = ws.drop i → acc.length + rest.length ≤ 100000 → compG (.items ws) t c e (rest.length + 1) i acc bs env S = .ok (acc ++ rest.filterMap g) S
  | [], i, acc, hd, hl => by
    have : ws[i]? = none := by
      rw [List.getElem?_eq_none]
      have := congrArg List.length hd
      simp at this; omega
    simp [compG, this]
  | w :: rest, i, acc, hd, hl => by
    have hi : ws[i]? = some w := by
      have := congrArg (·[0]?) hd
      simpa using this.symm
    have hm : w ∈ ws := List.mem_of_getElem? hi
    have hd' : rest = ws.drop (i + 1) := by
      have : ws.drop i = w :: rest := hd.symm
      rw [← List.drop_drop, this]; rfl
    simp only [List.length_cons] at hl ⊢
    unfold compG
    simp only [next_items, hi, ht w hm, Out.bindC_ok, hc w hm]
    cases hg : g w with
    | none =>
      simp only [Option.isSome_none, Bool.false_eq_true, if_false]
      rw [compG_pure en g ht hc he rest (i + 1) acc hd' (by omega)]
      simp [hg]
    | some y =>
      simp only [Option.isSome_some, if_true, he w hm y hg, Out.bindC_ok]
      rw [if_pos (by omega), compG_pure en g ht hc he rest (i + 1) (acc ++ [y]) hd' (by simp; omega)]
      simp [hg]
theorem mComp_pure {k : Bool} {mi : M Iter} {vs : List Nat} {ws : List W} {t : TM} {c : M Bool} {e : M W} {bs : List Nat} {env : Rf.Env} {S : Store} (hmi : mi bs env S = .ok (.items ws) S) (en : W → Rf.Env) (g : W → Option W)
    (ht : ∀ w ∈ ws, t w bs (wipeE env vs) S = .ok (en w) S) (hc : ∀ w ∈ ws, c bs (en w) S = .ok (g w).isSome S) (he : ∀ w ∈ ws, ∀ y, g w = some y → e bs (en w) S = .ok y S) (hl : ws.length ≤ 100000) :
    mComp k mi vs t c e bs env S = .ok (newL k (ws.filterMap g) S).1 (newL k (ws.filterMap g) S).2 := by
  unfold mComp
  rw [hmi]
  simp only [Out.bind_ok, Iter.fuel]
  rw [compG_pure en g ht hc he ws 0 [] rfl (by simpa using hl)]
  simp
/-- the same with one name as the target, no condition -/
theorem mComp_name {k : Bool} {mi : M Iter} {i : Nat} {vs : List Nat} {ws : List W} {e : M W} {bs : List Nat} {env : Rf.Env} {S : Store} (hmi : mi bs env S = .ok (.items ws) S) (g : W → W)
    (he : ∀ w ∈ ws, e bs ((wipeE env vs).set i (some w)) S = .ok (g w) S) (hl : ws.length ≤ 100000) :
    mComp k mi vs (tName i) mYes e bs env S = .ok (newL k (ws.map g) S).1 (newL k (ws.map g) S).2 := by
  rw [mComp_pure hmi (fun w => (wipeE env vs).set i (some w)) (fun w => some (g w)) (fun w _ => rfl) (fun w _ => by simp [mYes]) (fun w hw y h => by cases h; exact he w hw) hl]
  simp
/-- the same with a condition, and a constant -/
theorem mComp_if {k : Bool} {mi : M Iter} {vs : List Nat} {ws : List W} {t : TM} {c : M Bool} {d : PyData} {bs : List Nat} {env : Rf.Env} {S : Store} (hmi : mi bs env S = .ok (.items ws) S) (en : W → Rf.Env) (p : W → Bool)
    (ht : ∀ w ∈ ws, t w bs (wipeE env vs) S = .ok (en w) S) (hc : ∀ w ∈ ws, c bs (en w) S = .ok (p w) S) (hl : ws.length ≤ 100000) :
    mComp k mi vs t c (mCon d) bs env S = .ok (newL k ((ws.filter p).map fun _ => .dat d) S).1 (newL k ((ws.filter p).map fun _ => .dat d) S).2 := by
  have z : ∀ l : List W, l.filterMap (fun w => if p w then some (W.dat d) else none) = (l.filter p).map fun _ => W.dat d := fun l => by
    induction l with
    | nil => rfl
    | cons w l ih => cases h : p w <;> simp [h, ih]
  rw [mComp_pure hmi en (fun w => if p w then some (.dat d) else none) ht (fun w hw => by rw [hc w hw]; cases p w <;> rfl) (fun w hw y h => by
    cases hp : p w with
    | false => rw [hp] at h; cases h
    | true => rw [hp] at h; cases h; rfl) hl]
  rw [z]
/-- a for that goes to its end -/
theorem forG_end {ws : List W} {bd : W → MS} {bs : List Nat} (I : Nat → Rf.Env → Store → Prop) (step : ∀ k w env S, ws[k]? = some w → I k env S → ∃ env' S', bd w bs env S = .nx env' S' ∧ I (k + 1) env' S') :
    ∀ (n k : Nat) (env : Rf.Env) (S : Store), k + n = ws.length → I k env S → ∃ env' S', forG (.items ws) bd (n + 1) k bs env S = .nx env' S' ∧ I ws.length env' S'
  | 0, k, env, S, hk, h => by
    have e : k = ws.length := by omega
    have : ws[k]? = none := by rw [List.getElem?_eq_none]; omega
    exact ⟨env, S, by simp [forG, this], e ▸ h⟩
  | n + 1, k, env, S, hk, h => by
    have hi : ws[k]? = some ws[k] := List.getElem?_eq_getElem (by omega)
    obtain ⟨env1, S1, h1, h2⟩ := step k _ env S hi h
    obtain ⟨env2, S2, h3, h4⟩ := forG_end I step n (k + 1) env1 S1 (by omega) h2
    refine ⟨env2, S2, ?_, h4⟩
    rw [← h3]
    show (match (Iter.items ws).next k S with | none => _ | some none => _ | some (some w) => _) = _
    simp only [next_items, hi, h1, turn_nx]
theorem sFor_end {mi : M Iter} {ws : List W} {t : TM} {m : MS} {bs : List Nat} {env : Rf.Env} {S S0 : Store} (hmi : mi bs env S = .ok (.items ws) S0) (I : Nat → Rf.Env → Store → Prop) (h0 : I 0 env S0)
    (step : ∀ k w env S, ws[k]? = some w → I k env S → ∃ env' S', tBody t m w bs env S = .nx env' S' ∧ I (k + 1) env' S') : ∃ env' S', sFor mi t m bs env S = .nx env' S' ∧ I ws.length env' S' := by
  obtain ⟨e1, S1, h1, h2⟩ := forG_end I step ws.length 0 env S0 (by omega) h0
  exact ⟨e1, S1, by rw [← h1]; unfold sFor; rw [hmi]; rfl, h2⟩
/-- over a list that is a cell -/
theorem forG_cell {c : Nat} {ws : List W} {bd : W → MS} {bs : List Nat} (I : Nat → Rf.Env → Store → Prop) (hS : ∀ k env S, I k env S → S[c]? = some (.lst ws)) (step : ∀ k w env S, ws[k]? = some w → I k env S → ∃ env' S', bd w bs env S = .nx env' S' ∧ I (k + 1) env' S') :
    ∀ (f k : Nat) (env : Rf.Env) (S : Store), ws.length < k + f → k ≤ ws.length → I k env S → ∃ env' S', forG (.cell c) bd f k bs env S = .nx env' S' ∧ I ws.length env' S'
  | 0, k, env, S, hf, hk, h => by omega
  | f + 1, k, env, S, hf, hk, h => by
    have hs := hS k env S h
    by_cases e : k = ws.length
    · have : ws[k]? = none := by rw [List.getElem?_eq_none]; omega
      exact ⟨env, S, by simp [forG, Iter.next, hs, this], e ▸ h⟩
    · have hi : ws[k]? = some (ws[k]'(by omega)) := List.getElem?_eq_getElem (by omega)
      obtain ⟨env1, S1, h1, h2⟩ := step k _ env S hi h
      obtain ⟨env2, S2, h3, h4⟩ := forG_cell I hS step f (k + 1) env1 S1 (by omega) (by omega) h2
      refine ⟨env2, S2, ?_, h4⟩
      rw [← h3]
      show (match (Iter.cell c).next k S with | none => _ | some none => _ | some (some w) => _) = _
      simp only [Iter.next, hs, hi, h1, turn_nx]
theorem mCall_ok {f : FnT} {ms : M (List W)} {bs : List Nat} {env : Rf.Env} {S S1 : Store} {ws : List W} (h : ms bs env S = .ok ws S1) : mCall f ms bs env S = f bs ws S1 := by
  unfold mCall
  rw [h, Out.bind_ok]
theorem mCons_ok {m : M W} {ms : M (List W)} {bs : List Nat} {env : Rf.Env} {S S1 S2 : Store} {w : W} {ws : List W} (h : m bs env S = .ok w S1) (h2 : ms bs env S1 = .ok ws S2) : mCons m ms bs env S = .ok (w :: ws) S2 := by
  unfold mCons
  rw [h, Out.bind_ok, h2, Out.bind_ok]
theorem mNil_ok {bs : List Nat} {env : Rf.Env} {S : Store} : mNil bs env S = .ok [] S := rfl
@[simp] theorem newL_f {ws : List W} {S : Store} : newL false ws S = (mkLst ws, S) := rfl
@[simp] theorem newL_t {ws : List W} {S : Store} : newL true ws S = (.loc S.length, S ++ [.lst ws]) := rfl
theorem mkLst_map {α : Type} {f : α → PyData} {l : List α} : mkLst (l.map fun a => .dat (f a)) = .dat (.list (l.map f)) := by
  have : (l.map fun a => W.dat (f a)) = (l.map f).map .dat := by simp
  rw [this, mkLst_dat]
theorem mkTup_map {α : Type} {f : α → PyData} {l : List α} : mkTup (l.map fun a => .dat (f a)) = .dat (.tuple (l.map f)) := by
  have : (l.map fun a => W.dat (f a)) = (l.map f).map .dat := by simp
  rw [this, mkTup_dat]
end V

set_option maxHeartbeats 4000000
namespace V
open PySem L2 PyProof.Rows Rf

theorem bools_map {α : Type} (f : α → Bool) (l : List α) : bools (l.map fun a => W.bl (f a)) = some (l.map f) := by
  induction l with
  | nil => rfl
  | cons a l ih => simp only [List.map_cons, bools, ih]; rfl
theorem allF_map {α : Type} (f : α → Bool) (l : List α) (S : Store) : allF S (mkLst (l.map fun a => W.bl (f a))) = some (.bl (l.all f)) := by
  have h : lstOf S (mkLst (l.map fun a => W.bl (f a))) = some (l.map fun a => W.bl (f a)) := by
    have e : (l.map fun a => W.bl (f a)) = (l.map fun a => PyData.bool (f a)).map .dat := by simp
    rw [e, mkLst_dat]; rfl
  unfold allF
  rw [h]
  simp only [bools_map, Option.map_some]
  congr 2
  simp [List.all_map, Function.comp_def]
def areCells (d : PyData) (n : Int) : Bool := match d with
  | .tuple ds => decide ((ds.length : Int) ≤ n) && ds.all isCell
  | _ => false
theorem ev_are_cells (bs : List Nat) (d : PyData) (n : Int) (S : Store) (hn : n ≤ 100000) : F_are_cells bs [.dat d, .int n] S = .ok (.bl (areCells d n)) S := by
  unfold F_are_cells
  rw [fnM_eq (by rfl)]
  cases d with
  | tuple ds =>
    by_cases h : n < (ds.length : Int)
    · have h2 : ¬ ((ds.length : Int) ≤ n) := by omega
      simp [sRet, sRetN, sNil, sSeq, sIf, sAsg, sDrop, sPar, tName, mAndV, mOrV, mNotV, mIsi, mVar, mVarK, mChain, mCon, startE, isiW, tyW, kb1, kb2, kb3, kb4, kb5, kb6, kb7, kc1, kc2, kc3, kc4, kc5, kc6, kc7, kt1, kt2, kt3, kt4, kt5, kt6, kt7, truW, ordF, Ord.int, Ord.nat, mIf, mNot, mTru, mB, mBin, mCB, un, lenW, seqOf, tupOf, lstOf, mCons, mNil, mTup, mCall, isNF, wipeE, List.set, m_are_cells, areCells, h, h2]
    · have h2 : (ds.length : Int) ≤ n := by omega
      have comp := mComp_name (k := false) (mi := mIt (mVar 0)) (i := 2) (vs := [2]) (ws := ds.map .dat) (e := mCall F_is_cell (mCons (mVar 2) mNil)) (bs := S.length :: bs) (env := [some (.dat (.tuple ds)), some (.int n), none]) (S := S)
        (by simp [sRet, sRetN, sNil, sSeq, sIf, sAsg, sDrop, sPar, tName, mAndV, mOrV, mNotV, mIsi, mVar, mVarK, mChain, mCon, startE, isiW, tyW, kb1, kb2, kb3, kb4, kb5, kb6, kb7, kc1, kc2, kc3, kc4, kc5, kc6, kc7, kt1, kt2, kt3, kt4, kt5, kt6, kt7, truW, ordF, Ord.int, Ord.nat, mIf, mNot, mTru, mB, mBin, mCB, un, lenW, seqOf, tupOf, lstOf, mCons, mNil, mTup, mCall, isNF, wipeE, List.set, mIt, iterA, iterT]) (fun w => match w with | .dat d => .bl (isCell d) | w => w) (fun w hw => by
          obtain ⟨d, _, rfl⟩ := List.mem_map.mp hw
          simp [sRet, sRetN, sNil, sSeq, sIf, sAsg, sDrop, sPar, tName, mAndV, mOrV, mNotV, mIsi, mVar, mVarK, mChain, mCon, startE, isiW, tyW, kb1, kb2, kb3, kb4, kb5, kb6, kb7, kc1, kc2, kc3, kc4, kc5, kc6, kc7, kt1, kt2, kt3, kt4, kt5, kt6, kt7, truW, ordF, Ord.int, Ord.nat, mIf, mNot, mTru, mB, mBin, mCB, un, lenW, seqOf, tupOf, lstOf, mCons, mNil, mTup, mCall, isNF, wipeE, List.set, ev_is_cell]) (by simp; omega)
      have e : ((ds.map W.dat).map fun w => match w with | .dat d => W.bl (isCell d) | w => w) = ds.map fun d => W.bl (isCell d) := by simp [Function.comp_def]
      rw [e] at comp
      simp [sRet, sRetN, sNil, sSeq, sIf, sAsg, sDrop, sPar, tName, mAndV, mOrV, mNotV, mIsi, mVar, mVarK, mChain, mCon, startE, isiW, tyW, kb1, kb2, kb3, kb4, kb5, kb6, kb7, kc1, kc2, kc3, kc4, kc5, kc6, kc7, kt1, kt2, kt3, kt4, kt5, kt6, kt7, truW, ordF, Ord.int, Ord.nat, mIf, mNot, mTru, mB, mBin, mCB, un, lenW, seqOf, tupOf, lstOf, mCons, mNil, mTup, mCall, isNF, wipeE, List.set, m_are_cells, areCells, h, h2, comp, allF_map]
  | _ => simp [sRet, sRetN, sNil, sSeq, sIf, sAsg, sDrop, sPar, tName, mAndV, mOrV, mNotV, mIsi, mVar, mVarK, mChain, mCon, startE, isiW, tyW, kb1, kb2, kb3, kb4, kb5, kb6, kb7, kc1, kc2, kc3, kc4, kc5, kc6, kc7, kt1, kt2, kt3, kt4, kt5, kt6, kt7, truW, ordF, Ord.int, Ord.nat, mIf, mNot, mTru, mB, mBin, mCB, un, lenW, seqOf, tupOf, lstOf, mCons, mNil, mTup, mCall, isNF, wipeE, List.set, m_are_cells, areCells]
def isNilT : PyData → Bool
  | .tuple [] => true
  | _ => false
def isKeyN (n : Int) (d : PyData) : Bool := areCells d n && !isNilT d
theorem plain_cells : ∀ l : List PyData, l.all isCell = true → PyData.plainAll l = true ∧ PyData.depthAll l ≤ 1
  | [], _ => by simp [PyData.plainAll, PyData.depthAll]
  | d :: l, h => by
    rw [List.all_cons, Bool.and_eq_true] at h
    obtain ⟨h1, h2⟩ := plain_cells l h.2
    cases d <;> simp only [isCell, Bool.false_eq_true] at h <;> try exact h.1.elim
    refine ⟨by simp [PyData.plainAll, PyData.plain, h1], ?_⟩
    simp only [PyData.depthAll, PyData.depth]
    omega
theorem eq_nil {d : PyData} {n : Int} (h : areCells d n = true) (bs : List Nat) (S : Store) : eqF true bs (.dat d) (.dat (.tuple [])) S = some (.bl (!isNilT d), S) := by
  cases d with
  | tuple ds =>
    simp only [areCells, Bool.and_eq_true] at h
    obtain ⟨p1, p2⟩ := plain_cells ds h.2
    have a1 : PyData.plain (.tuple ds) = true := by rw [PyData.plain]; exact p1
    have a2 : PyData.plain (.tuple []) = true := by rfl
    have a3 : PyData.depth (.tuple ds) ≤ 64 := by rw [PyData.depth]; omega
    show (if _ ∧ _ ∧ _ then _ else _) = _
    rw [if_pos ⟨a1, a2, a3⟩]
    cases ds with
    | nil => rfl
    | cons d l => rfl
  | _ => simp [areCells] at h
theorem ev_is_key (bs : List Nat) (d : PyData) (S : Store) : F_is_key bs [.dat d] S = .ok (.bl (isKeyN 3 d)) S := by
  unfold F_is_key
  rw [fnM_eq (by rfl)]
  have p0 : mkTup [] = .dat (.tuple []) := rfl
  cases h : areCells d 3 with
  | false => simp [sRet, sRetN, sNil, sSeq, sIf, sAsg, sDrop, sPar, tName, mAndV, mOrV, mNotV, mIsi, mVar, mVarK, mChain, mCon, startE, isiW, tyW, kb1, kb2, kb3, kb4, kb5, kb6, kb7, kc1, kc2, kc3, kc4, kc5, kc6, kc7, kt1, kt2, kt3, kt4, kt5, kt6, kt7, truW, ordF, Ord.int, Ord.nat, mIf, mNot, mTru, mB, mBin, mCB, un, lenW, seqOf, tupOf, lstOf, mCons, mNil, mTup, mCall, isNF, wipeE, List.set, m_is_key, ev_are_cells, isKeyN, h]
  | true => simp [sRet, sRetN, sNil, sSeq, sIf, sAsg, sDrop, sPar, tName, mAndV, mOrV, mNotV, mIsi, mVar, mVarK, mChain, mCon, startE, isiW, tyW, kb1, kb2, kb3, kb4, kb5, kb6, kb7, kc1, kc2, kc3, kc4, kc5, kc6, kc7, kt1, kt2, kt3, kt4, kt5, kt6, kt7, truW, ordF, Ord.int, Ord.nat, mIf, mNot, mTru, mB, mBin, mCB, un, lenW, seqOf, tupOf, lstOf, mCons, mNil, mTup, mCall, isNF, wipeE, List.set, m_is_key, ev_are_cells, isKeyN, h, p0, eq_nil h]
theorem ev_is_row_value (bs : List Nat) (d : PyData) (S : Store) : F_is_row_value bs [.dat d] S = .ok (.bl (isKeyN 8 d)) S := by
  unfold F_is_row_value
  rw [fnM_eq (by rfl)]
  have p0 : mkTup [] = .dat (.tuple []) := rfl
  cases h : areCells d 8 with
  | false => simp [sRet, sRetN, sNil, sSeq, sIf, sAsg, sDrop, sPar, tName, mAndV, mOrV, mNotV, mIsi, mVar, mVarK, mChain, mCon, startE, isiW, tyW, kb1, kb2, kb3, kb4, kb5, kb6, kb7, kc1, kc2, kc3, kc4, kc5, kc6, kc7, kt1, kt2, kt3, kt4, kt5, kt6, kt7, truW, ordF, Ord.int, Ord.nat, mIf, mNot, mTru, mB, mBin, mCB, un, lenW, seqOf, tupOf, lstOf, mCons, mNil, mTup, mCall, isNF, wipeE, List.set, m_is_row_value, ev_are_cells, isKeyN, h]
  | true => simp [sRet, sRetN, sNil, sSeq, sIf, sAsg, sDrop, sPar, tName, mAndV, mOrV, mNotV, mIsi, mVar, mVarK, mChain, mCon, startE, isiW, tyW, kb1, kb2, kb3, kb4, kb5, kb6, kb7, kc1, kc2, kc3, kc4, kc5, kc6, kc7, kt1, kt2, kt3, kt4, kt5, kt6, kt7, truW, ordF, Ord.int, Ord.nat, mIf, mNot, mTru, mB, mBin, mCB, un, lenW, seqOf, tupOf, lstOf, mCons, mNil, mTup, mCall, isNF, wipeE, List.set, m_is_row_value, ev_are_cells, isKeyN, h, p0, eq_nil h]
def isRow : PyData → Bool
  | .tuple [k, v] => isKeyN 3 k && isKeyN 8 v
  | _ => false
theorem ev_is_row (bs : List Nat) (d : PyData) (S : Store) : F__is_row bs [.dat d] S = .ok (.bl (isRow d)) S := by
  unfold F__is_row
  rw [fnM_eq (by rfl)]
  cases d with
  | tuple ds =>
    rcases ds with _ | ⟨k, _ | ⟨v, _ | ⟨x, l⟩⟩⟩
    · simp [sRet, sRetN, sNil, sSeq, sIf, sAsg, sDrop, sPar, tName, mAndV, mOrV, mNotV, mIsi, mVar, mVarK, mChain, mCon, startE, isiW, tyW, kb1, kb2, kb3, kb4, kb5, kb6, kb7, kc1, kc2, kc3, kc4, kc5, kc6, kc7, kt1, kt2, kt3, kt4, kt5, kt6, kt7, truW, ordF, Ord.int, Ord.nat, mIf, mNot, mTru, mB, mBin, mCB, un, lenW, seqOf, tupOf, lstOf, mCons, mNil, mTup, mCall, isNF, wipeE, List.set, m__is_row, isRow, eqF, viewD, viewW, PyData.plain, PyData.depth, PyData.eqv]
    · simp [sRet, sRetN, sNil, sSeq, sIf, sAsg, sDrop, sPar, tName, mAndV, mOrV, mNotV, mIsi, mVar, mVarK, mChain, mCon, startE, isiW, tyW, kb1, kb2, kb3, kb4, kb5, kb6, kb7, kc1, kc2, kc3, kc4, kc5, kc6, kc7, kt1, kt2, kt3, kt4, kt5, kt6, kt7, truW, ordF, Ord.int, Ord.nat, mIf, mNot, mTru, mB, mBin, mCB, un, lenW, seqOf, tupOf, lstOf, mCons, mNil, mTup, mCall, isNF, wipeE, List.set, m__is_row, isRow, eqF, viewD, viewW, PyData.plain, PyData.depth, PyData.eqv]
    · cases h : isKeyN 3 k <;> simp [sRet, sRetN, sNil, sSeq, sIf, sAsg, sDrop, sPar, tName, mAndV, mOrV, mNotV, mIsi, mVar, mVarK, mChain, mCon, startE, isiW, tyW, kb1, kb2, kb3, kb4, kb5, kb6, kb7, kc1, kc2, kc3, kc4, kc5, kc6, kc7, kt1, kt2, kt3, kt4, kt5, kt6, kt7, truW, ordF, Ord.int, Ord.nat, mIf, mNot, mTru, mB, mBin, mCB, un, lenW, seqOf, tupOf, lstOf, mCons, mNil, mTup, mCall, isNF, wipeE, List.set, m__is_row, isRow, eqF, viewD, viewW, PyData.plain, PyData.depth, PyData.eqv, ixF, atI, ixN, ev_is_key, ev_is_row_value, h]
    · have : ¬ ((l.length : Int) + 1 + 1 + 1 = 2) := by omega
      simp [sRet, sRetN, sNil, sSeq, sIf, sAsg, sDrop, sPar, tName, mAndV, mOrV, mNotV, mIsi, mVar, mVarK, mChain, mCon, startE, isiW, tyW, kb1, kb2, kb3, kb4, kb5, kb6, kb7, kc1, kc2, kc3, kc4, kc5, kc6, kc7, kt1, kt2, kt3, kt4, kt5, kt6, kt7, truW, ordF, Ord.int, Ord.nat, mIf, mNot, mTru, mB, mBin, mCB, un, lenW, seqOf, tupOf, lstOf, mCons, mNil, mTup, mCall, isNF, wipeE, List.set, m__is_row, isRow, eqF, viewD, viewW, PyData.plain, PyData.depth, PyData.eqv, this]
  | _ => simp [sRet, sRetN, sNil, sSeq, sIf, sAsg, sDrop, sPar, tName, mAndV, mOrV, mNotV, mIsi, mVar, mVarK, mChain, mCon, startE, isiW, tyW, kb1, kb2, kb3, kb4, kb5, kb6, kb7, kc1, kc2, kc3, kc4, kc5, kc6, kc7, kt1, kt2, kt3, kt4, kt5, kt6, kt7, truW, ordF, Ord.int, Ord.nat, mIf, mNot, mTru, mB, mBin, mCB, un, lenW, seqOf, tupOf, lstOf, mCons, mNil, mTup, mCall, isNF, wipeE, List.set, m__is_row, isRow]
end V

set_option maxHeartbeats 4000000
namespace V
open PySem L2 PyProof.Rows Rf

/-! ### rows of ints, ascending -/
def tI (k : List Int) : PyData := .tuple (k.map .int)
theorem intsD_map : ∀ k : List Int, intsD (k.map .int) = some k
  | [] => rfl
  | i :: k => by simp [intsD, intsD_map k]
theorem lexB_lt : ∀ a b : List Int, lexB (Ord.int .lt) (Ord.nat .lt) a b = decide (a < b)
  | [], [] => by simp [lexB, Ord.nat]
  | [], b :: l => by simp [lexB, Ord.nat]
  | a :: k, [] => by simp [lexB, Ord.nat]
  | a :: k, b :: l => by
    unfold lexB
    rw [lexB_lt k l]
    by_cases e : a = b
    · subst e; simp [List.cons_lt_cons_iff]
    · simp [List.cons_lt_cons_iff, e, Ord.int]
theorem lexB_ge : ∀ a b : List Int, lexB (Ord.int .ge) (Ord.nat .ge) a b = !decide (a < b)
  | [], [] => by simp [lexB, Ord.nat]
  | [], b :: l => by simp [lexB, Ord.nat]
  | a :: k, [] => by simp [lexB, Ord.nat]
  | a :: k, b :: l => by
    unfold lexB
    rw [lexB_ge k l]
    by_cases e : a = b
    · subst e; simp [List.cons_lt_cons_iff]
    · have : (decide (b ≤ a)) = !decide (a < b) := by
        by_cases h : a < b
        · simp [h]
        · simp [h]; omega
      simp [List.cons_lt_cons_iff, e, Ord.int, this]
theorem lt_t (bs : List Nat) (a b : List Int) (S : Store) : ordF .lt bs (.dat (tI a)) (.dat (tI b)) S = some (.bl (decide (a < b)), S) := by
  show (match intsD _, intsD _ with | some ns, some ms => _ | _, _ => _) = _
  rw [intsD_map, intsD_map, ← lexB_lt]
theorem ge_t (bs : List Nat) (a b : List Int) (S : Store) : ordF .ge bs (.dat (tI a)) (.dat (tI b)) S = some (.bl (!decide (a < b)), S) := by
  show (match intsD _, intsD _ with | some ns, some ms => _ | _, _ => _) = _
  rw [intsD_map, intsD_map, ← lexB_ge]
def asc : List (List Int) → Bool
  | a :: b :: l => decide (a < b) && asc (b :: l)
  | _ => true
def kAt (ks : List (List Int)) (i : Nat) : List Int := ks.getD i []
theorem asc_range : ∀ ks : List (List Int), ((List.range (ks.length - 1)).all fun i => decide (kAt ks i < kAt ks (i + 1))) = asc ks
  | [] => rfl
  | [a] => rfl
  | a :: b :: l => by
    have ih := asc_range (b :: l)
    simp only [List.length_cons, Nat.add_sub_cancel] at ih ⊢
    rw [List.range_succ_eq_map, List.all_cons, List.all_map]
    simp only [asc]
    rw [← ih]
    congr 1
theorem at_int {α : Type} {xs : List α} {i : Nat} {x : α} (h : xs[i]? = some x) : atI xs (i : Int) = some x := by
  have hl := (List.getElem?_eq_some_iff.mp h).1
  simp only [atI, ixN]
  rw [if_pos (by omega), if_pos (by omega)]
  simpa using h
theorem rng1 {ms : M (List W)} {bs : List Nat} {env : Rf.Env} {S S1 : Store} {n : Int} (h : ms bs env S = .ok [.int n] S1) (h1 : -100000000 ≤ n) (h2 : n ≤ 100000000) : mRng1 ms bs env S = .ok (.items (rangeW 0 n)) S1 := by
  unfold mRng1
  rw [h]
  show (if _ then _ else _) = _
  rw [if_pos ⟨by omega, by omega⟩]
theorem rng2 {ms : M (List W)} {bs : List Nat} {env : Rf.Env} {S S1 : Store} {lo n : Int} (h : ms bs env S = .ok [.int lo, .int n] S1) (h1 : -100000000 ≤ n) (h2 : n ≤ 100000000) (h3 : -100000000 ≤ lo) (h4 : lo ≤ 100000000) : mRng2 ms bs env S = .ok (.items (rangeW lo n)) S1 := by
  unfold mRng2
  rw [h]
  show (if _ then _ else _) = _
  rw [if_pos ⟨⟨by omega, by omega⟩, by omega, by omega⟩]
def ascG (ks : List (List Int)) : W → W
  | .dat (.int j) => .bl (decide (kAt ks (j - 1).toNat < kAt ks j.toNat))
  | w => w
theorem ev_do_ascend (bs : List Nat) (ks : List (List Int)) (S : Store) (hl : ks.length ≤ 100000) : F__do_ascend bs [.dat (.list (ks.map tI))] S = .ok (.bl (asc ks)) S := by
  unfold F__do_ascend
  rw [fnM_eq (by rfl)]
  have hm : mRng2 (mCons (mCon (.int 1)) (mCons (mCB (un lenW) (mCons (mVar 0) mNil)) mNil)) (S.length :: bs) [some (.dat (.list (ks.map tI))), none] S = .ok (.items (rangeW 1 ks.length)) S :=
    rng2 (by simp [sRet, sRetN, sNil, sSeq, sIf, sAsg, sDrop, sPar, tName, mAndV, mOrV, mNotV, mIsi, mVar, mVarK, mChain, mCon, startE, isiW, tyW, kb1, kb2, kb3, kb4, kb5, kb6, kb7, kc1, kc2, kc3, kc4, kc5, kc6, kc7, kt1, kt2, kt3, kt4, kt5, kt6, kt7, truW, ordF, Ord.int, Ord.nat, mIf, mNot, mTru, mB, mBin, mCB, un, lenW, seqOf, tupOf, lstOf, mCons, mNil, mTup, mCall, isNF, wipeE, List.set]) (by omega) (by omega) (by omega) (by omega)
  have er : rangeW 1 ks.length = (List.range (ks.length - 1)).map fun (i : Nat) => W.int (1 + (i : Int)) := by
    unfold rangeW
    rw [show ((ks.length : Int) - 1).toNat = ks.length - 1 by omega]
  have comp := mComp_name (k := false) (i := 1) (vs := [1]) (e := mBin (ordF .lt) (mBin ixF (mVar 0) (mBin subF (mVar 1) (mCon (.int 1)))) (mBin ixF (mVar 0) (mVar 1))) hm (ascG ks) (fun w hw => by
      rw [er] at hw
      obtain ⟨i, hi, rfl⟩ := List.mem_map.mp hw
      have hi' : i < ks.length - 1 := List.mem_range.mp hi
      have h1 : ks[i]? = some (kAt ks i) := by unfold kAt; rw [List.getD_eq_getElem?_getD, List.getElem?_eq_getElem (by omega)]; rfl
      have h2 : ks[i + 1]? = some (kAt ks (i + 1)) := by unfold kAt; rw [List.getD_eq_getElem?_getD, List.getElem?_eq_getElem (by omega)]; rfl
      have g1 : atI ((ks.map tI).map W.dat) (1 + (i : Int) - 1) = some (.dat (tI (kAt ks i))) := by
        rw [show (1 + (i : Int) - 1) = (i : Int) by omega]
        exact at_int (by rw [List.getElem?_map, List.getElem?_map, h1]; rfl)
      have g2 : atI ((ks.map tI).map W.dat) (1 + (i : Int)) = some (.dat (tI (kAt ks (i + 1)))) := by
        rw [show (1 + (i : Int)) = ((i + 1 : Nat) : Int) by omega]
        exact at_int (by rw [List.getElem?_map, List.getElem?_map, h2]; rfl)
      have x1 : ixF (S.length :: bs) (.dat (.list (ks.map tI))) (.int (1 + (i : Int) - 1)) S = some (.dat (tI (kAt ks i)), S) := by
        show (atI ((ks.map tI).map W.dat) (1 + (i : Int) - 1)).map (·, S) = _
        rw [g1]; rfl
      have x2 : ixF (S.length :: bs) (.dat (.list (ks.map tI))) (.int (1 + (i : Int))) S = some (.dat (tI (kAt ks (i + 1))), S) := by
        show (atI ((ks.map tI).map W.dat) (1 + (i : Int))).map (·, S) = _
        rw [g2]; rfl
      show mBin _ _ _ _ [some (.dat (.list (ks.map tI))), some (.int (1 + (i : Int)))] S = _
      simp only [mBin, mVar, mCon, subF, intF, List.getElem?_cons_zero, List.getElem?_cons_succ, W.weak_dat, Out.bind_ok, Option.map_some, x1, x2, lt_t]
      show _ = Out.ok (W.bl (decide (kAt ks (1 + (i : Int) - 1).toNat < kAt ks (1 + (i : Int)).toNat))) S
      rw [show (1 + (i : Int) - 1).toNat = i by omega, show (1 + (i : Int)).toNat = i + 1 by omega]) (by rw [er]; simp; omega)
  have e : ((rangeW 1 ks.length).map (ascG ks)) = (List.range (ks.length - 1)).map fun i => W.bl (decide (kAt ks i < kAt ks (i + 1))) := by
    rw [er, List.map_map]
    apply List.map_congr_left
    intro i _
    show W.bl (decide (kAt ks (1 + (i : Int) - 1).toNat < kAt ks (1 + (i : Int)).toNat)) = _
    rw [show (1 + (i : Int) - 1).toNat = i by omega, show (1 + (i : Int)).toNat = i + 1 by omega]
  rw [e] at comp
  simp [sRet, sRetN, sNil, sSeq, sIf, sAsg, sDrop, sPar, tName, mAndV, mOrV, mNotV, mIsi, mVar, mVarK, mChain, mCon, startE, isiW, tyW, kb1, kb2, kb3, kb4, kb5, kb6, kb7, kc1, kc2, kc3, kc4, kc5, kc6, kc7, kt1, kt2, kt3, kt4, kt5, kt6, kt7, truW, ordF, Ord.int, Ord.nat, mIf, mNot, mTru, mB, mBin, mCB, un, lenW, seqOf, tupOf, lstOf, mCons, mNil, mTup, mCall, isNF, wipeE, List.set, m__do_ascend, comp, allF_map, asc_range]
end V

set_option maxHeartbeats 4000000
namespace V
open PySem L2 PyProof.Rows Rf

/-! ### a comprehension over any iterator that changes nothing -/
theorem compG_it {it : Iter} {zs : List W} {t : TM} {c : M Bool} {e : M W} {bs : List Nat} {S : Store} {env : Rf.Env} (hn : ∀ i, it.next i S = some zs[i]?) (en : W → Rf.Env) (g : W → Option W)
    (ht : ∀ w ∈ zs, t w bs env S = .ok (en w) S) (hc : ∀ w ∈ zs, c bs (en w) S = .ok (g w).isSome S) (he : ∀ w ∈ zs, ∀ y, g w = some y → e bs (en w) S = .ok y S) :
    ∀ (rest : List W) (f i : Nat) (acc : List W), rest = zs.drop i → acc.length + rest.length ≤ 100000 → rest.length < f → compG it t c e f i acc bs env S = .ok (acc ++ rest.filterMap g) S
  | _, 0, i, acc, hd, hl, hf => by omega
  | [], f + 1, i, acc, hd, hl, hf => by
    have : zs[i]? = none := by
      rw [List.getElem?_eq_none]
      have := congrArg List.length hd
      simp at this; omega
    simp [compG, hn, this]
  | w :: rest, f + 1, i, acc, hd, hl, hf => by
    have hi : zs[i]? = some w := by
      have := congrArg (·[0]?) hd
      simpa using this.symm
    have hm : w ∈ zs := List.mem_of_getElem? hi
    have hd' : rest = zs.drop (i + 1) := by
      have : zs.drop i = w :: rest := hd.symm
      rw [← List.drop_drop, this]; rfl
    simp only [List.length_cons] at hl hf
    unfold compG
    simp only [hn, hi, ht w hm, Out.bindC_ok, hc w hm]
    cases hg : g w with
    | none =>
      simp only [Option.isSome_none, Bool.false_eq_true, if_false]
      rw [compG_it hn en g ht hc he rest f (i + 1) acc hd' (by omega) (by omega)]
      simp [hg]
    | some y =>
      simp only [Option.isSome_some, if_true, he w hm y hg, Out.bindC_ok]
      rw [if_pos (by omega), compG_it hn en g ht hc he rest f (i + 1) (acc ++ [y]) hd' (by simp; omega) (by omega)]
      simp [hg]
/-- a comprehension of a constant, with a condition -/
theorem mComp_ifIt {k : Bool} {mi : M Iter} {vs : List Nat} {it : Iter} {zs : List W} {t : TM} {c : M Bool} {d : PyData} {bs : List Nat} {env : Rf.Env} {S : Store} (hmi : mi bs env S = .ok it S) (hn : ∀ i, it.next i S = some zs[i]?) (hf : zs.length < it.fuel) (en : W → Rf.Env) (p : W → Bool)
    (ht : ∀ w ∈ zs, t w bs (wipeE env vs) S = .ok (en w) S) (hc : ∀ w ∈ zs, c bs (en w) S = .ok (p w) S) (hl : zs.length ≤ 100000) :
    mComp k mi vs t c (mCon d) bs env S = .ok (newL k ((zs.filter p).map fun _ => .dat d) S).1 (newL k ((zs.filter p).map fun _ => .dat d) S).2 := by
  have z : ∀ l : List W, l.filterMap (fun w => if p w then some (W.dat d) else none) = (l.filter p).map fun _ => W.dat d := fun l => by
    induction l with
    | nil => rfl
    | cons w l ih => cases h : p w <;> simp [h, ih]
  unfold mComp
  rw [hmi]
  simp only [Out.bind_ok]
  rw [compG_it hn en (fun w => if p w then some (.dat d) else none) ht (fun w hw => by rw [hc w hw]; cases p w <;> rfl) (fun w hw y h => by
    cases hp : p w with
    | false => rw [hp] at h; cases h
    | true => rw [hp] at h; cases h; rfl) zs it.fuel 0 [] rfl (by simpa using hl) hf]
  simp only [List.nil_append, z, Out.bind_ok]
/-- .. == [] -/
theorem eq_none (bs : List Nat) (l : List W) (S : Store) : eqF false bs (mkLst (l.map fun _ => .dat (.int 1))) (mkLst []) S = some (.bl l.isEmpty, S) := by
  have e : (l.map fun _ => W.dat (PyData.int 1)) = (l.map fun _ => PyData.int 1).map W.dat := by simp
  have e0 : mkLst [] = .dat (.list []) := rfl
  rw [e, mkLst_dat, e0]
  have all : ∀ l : List W, PyData.plainAll (l.map fun _ => PyData.int 1) = true ∧ PyData.depthAll (l.map fun _ => PyData.int 1) ≤ 1 := fun l => by
    induction l with
    | nil => simp [PyData.plainAll, PyData.depthAll]
    | cons a l ih =>
      simp only [List.map_cons, PyData.plainAll, PyData.plain, PyData.depthAll, PyData.depth, Bool.true_and]
      exact ⟨ih.1, by omega⟩
  obtain ⟨p1, p2⟩ := all l
  have a1 : PyData.plain (.list (l.map fun _ => PyData.int 1)) = true := by rw [PyData.plain]; exact p1
  have a3 : PyData.depth (.list (l.map fun _ => PyData.int 1)) ≤ 64 := by rw [PyData.depth]; omega
  show (if _ ∧ _ ∧ _ then _ else _) = _
  rw [if_pos ⟨a1, rfl, a3⟩]
  cases l <;> rfl
theorem pow18 (bs : List Nat) (S : Store) : powF bs (.int 10) (.int 18) S = some (.int 1000000000000000000, S) := rfl
theorem cells_ints : ∀ {l : List PyData}, l.all isCell = true → ∃ ns : List Int, l = ns.map .int ∧ ∀ i ∈ ns, 0 ≤ i ∧ i ≤ 999999999999999999
  | [], _ => ⟨[], rfl, fun i hi => nomatch hi⟩
  | d :: l, h => by
    rw [List.all_cons, Bool.and_eq_true] at h
    obtain ⟨ns, rfl, hn⟩ := cells_ints h.2
    cases d <;> simp only [isCell, Bool.false_eq_true] at h <;> try exact h.1.elim
    rename_i i
    refine ⟨i :: ns, rfl, fun j hj => ?_⟩
    rcases List.mem_cons.mp hj with rfl | hj
    · simpa using h.1
    · exact hn j hj
theorem ev_law_is_cells (bs : List Nat) (d : PyData) (n : Int) (S : Store) (hn : n ≤ 100) : F__law_is_cells bs [.dat d, .int n] S = .ok (.bl (isKeyN n d)) S := by
  unfold F__law_is_cells
  rw [fnM_eq (by rfl)]
  cases d with
  | tuple ds =>
    by_cases h0 : ds = []
    · subst h0
      simp [sRet, sRetN, sNil, sSeq, sIf, sAsg, sDrop, sPar, tName, mAndV, mOrV, mNotV, mIsi, mVar, mVarK, mChain, mCon, startE, isiW, tyW, kb1, kb2, kb3, kb4, kb5, kb6, kb7, kc1, kc2, kc3, kc4, kc5, kc6, kc7, kt1, kt2, kt3, kt4, kt5, kt6, kt7, truW, ordF, Ord.int, Ord.nat, mIf, mNot, mTru, mB, mBin, mCB, un, lenW, seqOf, tupOf, lstOf, mCons, mNil, mTup, mCall, isNF, wipeE, List.set, m__law_is_cells, isKeyN, isNilT]
    · have h1 : (1 : Int) ≤ ds.length := by
        have := List.length_pos_iff.mpr h0
        omega
      have nn : isNilT (.tuple ds) = false := by
        cases ds with
        | nil => exact absurd rfl h0
        | cons a l => rfl
      by_cases h : (ds.length : Int) ≤ n
      · have comp := mComp_ifIt (k := false) (mi := mIt (mVar 0)) (vs := [2]) (it := .items (ds.map .dat)) (zs := ds.map .dat) (t := tName 2)
          (c := mOr (mNot (mTru (mIsi "int" (mVar 2)))) (mOr (mTru (mIsi "bool" (mVar 2))) (mNot (mB (mChain (ordF .le) (ordF .lt) (mCon (.int 0)) (mVar 2) (mBin powF (mCon (.int 10)) (mCon (.int 18))))))))
          (d := .int 1) (bs := S.length :: bs) (env := [some (.dat (.tuple ds)), some (.int n), none]) (S := S) (by simp [sRet, sRetN, sNil, sSeq, sIf, sAsg, sDrop, sPar, tName, mAndV, mOrV, mNotV, mIsi, mVar, mVarK, mChain, mCon, startE, isiW, tyW, kb1, kb2, kb3, kb4, kb5, kb6, kb7, kc1, kc2, kc3, kc4, kc5, kc6, kc7, kt1, kt2, kt3, kt4, kt5, kt6, kt7, truW, ordF, Ord.int, Ord.nat, mIf, mNot, mTru, mB, mBin, mCB, un, lenW, seqOf, tupOf, lstOf, mCons, mNil, mTup, mCall, isNF, wipeE, List.set, mIt, iterA, iterT]) (fun i => rfl) (by simp [Iter.fuel]) (fun w => [some (.dat (.tuple ds)), some (.int n), some w]) (fun w => match w with | .dat d => !isCell d | _ => false)
          (fun w hw => by simp [sRet, sRetN, sNil, sSeq, sIf, sAsg, sDrop, sPar, tName, mAndV, mOrV, mNotV, mIsi, mVar, mVarK, mChain, mCon, startE, isiW, tyW, kb1, kb2, kb3, kb4, kb5, kb6, kb7, kc1, kc2, kc3, kc4, kc5, kc6, kc7, kt1, kt2, kt3, kt4, kt5, kt6, kt7, truW, ordF, Ord.int, Ord.nat, mIf, mNot, mTru, mB, mBin, mCB, un, lenW, seqOf, tupOf, lstOf, mCons, mNil, mTup, mCall, isNF, wipeE, List.set]) (fun w hw => by
            obtain ⟨d, _, rfl⟩ := List.mem_map.mp hw
            cases d with
            | int i =>
              have e2 : decide (i < 1000000000000000000) = decide (i ≤ 999999999999999999) := decide_eq_decide.mpr (by omega)
              by_cases z : 0 ≤ i <;> simp [sRet, sRetN, sNil, sSeq, sIf, sAsg, sDrop, sPar, tName, mAndV, mOrV, mNotV, mIsi, mVar, mVarK, mChain, mCon, startE, isiW, tyW, kb1, kb2, kb3, kb4, kb5, kb6, kb7, kc1, kc2, kc3, kc4, kc5, kc6, kc7, kt1, kt2, kt3, kt4, kt5, kt6, kt7, truW, ordF, Ord.int, Ord.nat, mIf, mNot, mTru, mB, mBin, mCB, un, lenW, seqOf, tupOf, lstOf, mCons, mNil, mTup, mCall, isNF, wipeE, List.set, isCell, z, pow18, e2]
            | _ => simp [sRet, sRetN, sNil, sSeq, sIf, sAsg, sDrop, sPar, tName, mAndV, mOrV, mNotV, mIsi, mVar, mVarK, mChain, mCon, startE, isiW, tyW, kb1, kb2, kb3, kb4, kb5, kb6, kb7, kc1, kc2, kc3, kc4, kc5, kc6, kc7, kt1, kt2, kt3, kt4, kt5, kt6, kt7, truW, ordF, Ord.int, Ord.nat, mIf, mNot, mTru, mB, mBin, mCB, un, lenW, seqOf, tupOf, lstOf, mCons, mNil, mTup, mCall, isNF, wipeE, List.set, isCell]) (by simp; omega)
        have e : ((ds.map W.dat).filter fun w => match w with | .dat d => !isCell d | _ => false).isEmpty = ds.all isCell := by
          clear h0 h1 nn h comp
          induction ds with
          | nil => rfl
          | cons d l ih =>
            cases hd : isCell d with
            | true => simp only [List.map_cons, List.filter_cons, hd, Bool.not_true, Bool.false_eq_true, if_false, List.all_cons, Bool.true_and]; exact ih
            | false => simp [hd]
        have q := eq_none (S.length :: bs) ((ds.map W.dat).filter fun w => match w with | .dat d => !isCell d | _ => false) S
        rw [e] at q
        simp only [newL_f] at comp
        have p0 : mLst false mNil (S.length :: bs) [some (.dat (.tuple ds)), some (.int n), none] S = .ok (mkLst []) S := rfl
        simp [sRet, sRetN, sNil, sSeq, sIf, sAsg, sDrop, sPar, tName, mAndV, mOrV, mNotV, mIsi, mVar, mVarK, mChain, mCon, startE, isiW, tyW, kb1, kb2, kb3, kb4, kb5, kb6, kb7, kc1, kc2, kc3, kc4, kc5, kc6, kc7, kt1, kt2, kt3, kt4, kt5, kt6, kt7, truW, ordF, Ord.int, Ord.nat, mIf, mNot, mTru, mB, mBin, mCB, un, lenW, seqOf, tupOf, lstOf, mCons, mNil, mTup, mCall, isNF, wipeE, List.set, m__law_is_cells, h1, h, comp, p0, q, isKeyN, nn, areCells]
      · simp [sRet, sRetN, sNil, sSeq, sIf, sAsg, sDrop, sPar, tName, mAndV, mOrV, mNotV, mIsi, mVar, mVarK, mChain, mCon, startE, isiW, tyW, kb1, kb2, kb3, kb4, kb5, kb6, kb7, kc1, kc2, kc3, kc4, kc5, kc6, kc7, kt1, kt2, kt3, kt4, kt5, kt6, kt7, truW, ordF, Ord.int, Ord.nat, mIf, mNot, mTru, mB, mBin, mCB, un, lenW, seqOf, tupOf, lstOf, mCons, mNil, mTup, mCall, isNF, wipeE, List.set, m__law_is_cells, h1, h, isKeyN, areCells]
  | _ => simp [sRet, sRetN, sNil, sSeq, sIf, sAsg, sDrop, sPar, tName, mAndV, mOrV, mNotV, mIsi, mVar, mVarK, mChain, mCon, startE, isiW, tyW, kb1, kb2, kb3, kb4, kb5, kb6, kb7, kc1, kc2, kc3, kc4, kc5, kc6, kc7, kt1, kt2, kt3, kt4, kt5, kt6, kt7, truW, ordF, Ord.int, Ord.nat, mIf, mNot, mTru, mB, mBin, mCB, un, lenW, seqOf, tupOf, lstOf, mCons, mNil, mTup, mCall, isNF, wipeE, List.set, m__law_is_cells, isKeyN, areCells]
end V

set_option maxHeartbeats 4000000
namespace V
open PySem L2 PyProof.Rows Rf

def rowKey : PyData → List Int
  | .tuple (.tuple ks :: _) => (intsD ks).getD []
  | _ => []
theorem isRow_shape {d : PyData} (h : isRow d = true) : ∃ v, d = .tuple [tI (rowKey d), v] := by
  unfold isRow at h
  split at h
  · rename_i k v
    rw [Bool.and_eq_true] at h
    have h1 := h.1
    unfold isKeyN at h1
    rw [Bool.and_eq_true] at h1
    have h2 := h1.1
    cases k with
    | tuple l =>
      simp only [areCells, Bool.and_eq_true] at h2
      obtain ⟨ns, rfl, _⟩ := cells_ints h2.2
      refine ⟨v, ?_⟩
      show _ = PyData.tuple [tI ((intsD (ns.map .int)).getD []), v]
      rw [intsD_map]; rfl
    | _ => simp [areCells] at h2
  · cases h
/-- a tuple, told as data or by its items -/
def TupW (ds : List PyData) (w : W) : Prop := w = .dat (.tuple ds) ∨ w = .tw (ds.map .dat)
theorem TupW.of (ds : List PyData) : TupW ds (.dat (.tuple ds)) := .inl rfl
theorem TupW.tup {ds : List PyData} {w : W} (h : TupW ds w) : tupOf w = some (ds.map .dat) := by rcases h with rfl | rfl <;> rfl
theorem TupW.weak {ds : List PyData} {w : W} (h : TupW ds w) : w.weak = w := by rcases h with rfl | rfl <;> rfl
theorem TupW.isi {ds : List PyData} {w : W} (h : TupW ds w) (S : Store) : isiW "tuple" S w = some (.bl true) := by rcases h with rfl | rfl <;> simp [isiW, tyW, kt6]
theorem TupW.len {ds : List PyData} {w : W} (h : TupW ds w) (S : Store) : lenW S w = some (.int ds.length) := by rcases h with rfl | rfl <;> simp [lenW, seqOf, tupOf]
theorem TupW.it {ds : List PyData} {w : W} (h : TupW ds w) (S : Store) : iterA S w = some (.items (ds.map .dat)) := by rcases h with rfl | rfl <;> simp [iterA, iterT, tupOf]
def areRows (ds : List PyData) : Bool := decide (ds.length ≤ 2000) && (ds.all isRow && asc (ds.map rowKey))
def rowG : W → W
  | .dat d => .bl (isRow d)
  | w => w
def keyG : W → W
  | .dat d => .dat (tI (rowKey d))
  | w => w
theorem ev_are_rows {ds : List PyData} {w : W} (hw : TupW ds w) (bs : List Nat) (S : Store) : F_are_rows bs [w] S = .ok (.bl (areRows ds)) S := by
  unfold F_are_rows
  rw [fnM_eq (by rfl)]
  have hi : ∀ bs e, mIsi "tuple" (mVar 0) bs [some w, e] S = .ok (.bl true) S := fun bs e => by simp [mIsi, mVar, hw.weak, hw.isi]
  have hv : ∀ bs e, mVar 0 bs [some w, e] S = .ok w S := fun bs e => by simp [mVar, hw.weak]
  have ht : ∀ bs e, mIt (mVar 0) bs [some w, e] S = .ok (.items (ds.map .dat)) S := fun bs e => by simp [mIt, mVar, hw.weak, hw.it]
  have se : startE 2 [w] = [some w, none] := rfl
  by_cases h : ds.length ≤ 2000
  · have h' : ¬ (2000 : Int) < ds.length := by omega
    have c1 := mComp_name (k := false) (i := 1) (vs := [1]) (e := mCall F__is_row (mCons (mVar 1) mNil)) (ht (S.length :: bs) none) rowG (fun x hx => by
      obtain ⟨d, _, rfl⟩ := List.mem_map.mp hx
      simp [mCall, mCons, mVar, mNil, wipeE, ev_is_row, rowG]) (by simp; omega)
    have e1 : (ds.map W.dat).map rowG = ds.map fun d => W.bl (isRow d) := by rw [List.map_map]; rfl
    rw [e1] at c1
    simp only [newL_f] at c1
    cases hr : ds.all isRow with
    | false =>
      simp only [m_are_rows, sSeq, sIf, sRet, mOr, mIf, mNot, mTru, mB, mBin, mAndV, se, hi, hv, hw.len, mNil, Out.bind_ok, truW, mCon, ordF, Ord.int, so_ok, decide_eq_false h', Bool.not_true, Bool.false_eq_true, if_false, sNil, then_nx, mCB, un, mCons, c1, allF_map, hr, Option.map_some, out_rt, popR_dat, areRows, Bool.false_and, Bool.and_false]
    | true =>
      have c2 := mComp_name (k := false) (i := 1) (vs := [1]) (e := mBin ixF (mVar 1) (mCon (.int 0))) (ht (S.length :: bs) none) keyG (fun x hx => by
        obtain ⟨d, hd, rfl⟩ := List.mem_map.mp hx
        obtain ⟨v, hv⟩ := isRow_shape (List.all_eq_true.mp hr d hd)
        have q : ixF (S.length :: bs) (.dat d) (.int 0) S = some (.dat (tI (rowKey d)), S) := by
          have q2 : ixF (S.length :: bs) (.dat (.tuple [tI (rowKey d), v])) (.int 0) S = some (.dat (tI (rowKey d)), S) := rfl
          rw [← hv] at q2
          exact q2
        simp [mBin, mVar, mCon, wipeE, q, keyG]) (by simp; omega)
      have e2 : (ds.map W.dat).map keyG = (ds.map rowKey).map fun k => W.dat (tI k) := by simp [List.map_map, Function.comp_def, keyG]
      rw [e2] at c2
      simp only [newL_f, mkLst_map] at c2
      have hk : (ds.map rowKey).length ≤ 100000 := by rw [List.length_map]; omega
      have c3 : F__do_ascend (S.length :: bs) [.dat (.list ((ds.map rowKey).map tI))] S = .ok (.bl (asc (ds.map rowKey))) S := ev_do_ascend (S.length :: bs) (ds.map rowKey) S hk
      have c4 : mCall F__do_ascend (mCons (mComp false (mIt (mVar 0)) [1] (tName 1) mYes (mBin ixF (mVar 1) (mCon (.int 0)))) mNil) (S.length :: bs) [some w, none] S = .ok (.bl (asc (ds.map rowKey))) S := by
        have a4 := mCons_ok c2 (mNil_ok (bs := S.length :: bs) (env := [some w, none]))
        rw [mCall_ok a4]
        exact c3
      have val : areRows ds = asc (ds.map rowKey) := by
        unfold areRows
        rw [hr, decide_eq_true h, Bool.true_and, Bool.true_and]
      rw [val]
      have body : m_are_rows (S.length :: bs) [some w, none] S = .rt (.bl (asc (ds.map rowKey))) S := by
        simp only [m_are_rows, sSeq, sIf, sRet, mOr, mIf, mNot, mTru, mB, mBin, mAndV, hi, hv, hw.len, mNil, Out.bind_ok, mCB, un, mCons, Option.map_some, truW, mCon, ordF, Ord.int, so_ok, decide_eq_false h', Bool.not_true, Bool.false_eq_true, if_false, sNil, then_nx, c1, allF_map, hr, if_true, c4]
      rw [se, body]
      exact popR_dat
  · have h' : (2000 : Int) < ds.length := by omega
    simp only [m_are_rows, sSeq, sIf, sRet, mOr, mIf, mNot, mTru, mB, mBin, mAndV, se, hi, hv, hw.len, mNil, Out.bind_ok, mCB, un, mCons, Option.map_some, truW, mCon, ordF, Ord.int, so_ok, decide_eq_true h', Bool.not_true, Bool.false_eq_true, if_false, if_true, then_rt, out_rt, popR_dat, areRows, decide_eq_false h, Bool.false_and]
theorem ev_are_rows_no {d : PyData} (hd : ∀ ds, d ≠ .tuple ds) (bs : List Nat) (S : Store) : F_are_rows bs [.dat d] S = .ok (.bl false) S := by
  unfold F_are_rows
  rw [fnM_eq (by rfl)]
  cases d with
  | tuple ds => exact absurd rfl (hd ds)
  | _ => simp [sRet, sRetN, sNil, sSeq, sIf, sAsg, sDrop, sPar, tName, mAndV, mOrV, mNotV, mIsi, mVar, mVarK, mChain, mCon, startE, isiW, tyW, kb1, kb2, kb3, kb4, kb5, kb6, kb7, kc1, kc2, kc3, kc4, kc5, kc6, kc7, kt1, kt2, kt3, kt4, kt5, kt6, kt7, truW, ordF, Ord.int, Ord.nat, mIf, mNot, mTru, mB, mBin, mCB, un, lenW, seqOf, tupOf, lstOf, mCons, mNil, mTup, mCall, isNF, wipeE, List.set, m_are_rows]
end V

set_option maxHeartbeats 4000000
namespace V
open PySem L2 PyProof.Rows Rf

/-- a for that looks at each item and may end with a value -/
theorem forG_look {ws : List W} {bd : W → MS} {bs : List Nat} {S : Store} {r : W} (R : Rf.Env → Prop) (p : W → Bool) (hp : ∀ w ∈ ws, ∀ env, R env → (p w = true → ∃ env', bd w bs env S = .nx env' S ∧ R env') ∧ (p w = false → bd w bs env S = .rt r S)) :
    ∀ (rest : List W) (k : Nat) (env : Rf.Env), rest = ws.drop k → R env → (rest.all p = true → ∃ env', forG (.items ws) bd (rest.length + 1) k bs env S = .nx env' S ∧ R env') ∧ (rest.all p = false → forG (.items ws) bd (rest.length + 1) k bs env S = .rt r S)
  | [], k, env, hd, hR => by
    have : ws[k]? = none := by
      rw [List.getElem?_eq_none]
      have := congrArg List.length hd
      simp at this; omega
    exact ⟨fun _ => ⟨env, by simp [forG, this], hR⟩, fun z => nomatch z⟩
  | w :: rest, k, env, hd, hR => by
    have hi : ws[k]? = some w := by
      have := congrArg (·[0]?) hd
      simpa using this.symm
    have hd' : rest = ws.drop (k + 1) := by
      have : ws.drop k = w :: rest := hd.symm
      rw [← List.drop_drop, this]; rfl
    obtain ⟨hT, hF⟩ := hp w (List.mem_of_getElem? hi) env hR
    have un : forG (.items ws) bd ((w :: rest).length + 1) k bs env S = (bd w bs env S).turn fun e S1 => forG (.items ws) bd (rest.length + 1) (k + 1) bs e S1 := by
      show (match (Iter.items ws).next k S with | none => _ | some none => _ | some (some w) => _) = _
      simp only [next_items, hi]
      rfl
    rw [un, List.all_cons]
    cases hw : p w with
    | false =>
      rw [hF hw, Bool.false_and]
      exact ⟨fun z => (nomatch z), fun _ => rfl⟩
    | true =>
      obtain ⟨env1, h1, h2⟩ := hT hw
      rw [h1, Bool.true_and]
      exact forG_look R p hp rest (k + 1) env1 hd' h2
abbrev cBad : M Bool := mOr (mNot (mTru (mIsi "tuple" (mVar 1)))) (mOr (mB (mBin (eqF true) (mCB (un lenW) (mCons (mVar 1) mNil)) (mCon (.int 2)))) (mOr (mNot (mTru (mCall F__law_is_cells (mCons (mBin ixF (mVar 1) (mCon (.int 0))) (mCons (mCon (.int 3)) mNil))))) (mNot (mTru (mCall F__law_is_cells (mCons (mBin ixF (mVar 1) (mCon (.int 1))) (mCons (mCon (.int 8)) mNil)))))))
theorem ev_bad (bs : List Nat) (w : W) (d : PyData) (x : Option W) (S : Store) : cBad bs [some w, some (.dat d), x] S = .ok (!isRow d) S := by
  cases d with
  | tuple ds =>
    rcases ds with _ | ⟨k, _ | ⟨v, _ | ⟨y, l⟩⟩⟩
    · simp [sRet, sRetN, sNil, sSeq, sIf, sAsg, sDrop, sPar, tName, mAndV, mOrV, mNotV, mIsi, mVar, mVarK, mChain, mCon, startE, isiW, tyW, kb1, kb2, kb3, kb4, kb5, kb6, kb7, kc1, kc2, kc3, kc4, kc5, kc6, kc7, kt1, kt2, kt3, kt4, kt5, kt6, kt7, truW, ordF, Ord.int, Ord.nat, mIf, mNot, mTru, mB, mBin, mCB, un, lenW, seqOf, tupOf, lstOf, mCons, mNil, mTup, mCall, isNF, wipeE, List.set, cBad, isRow, eqF, viewD, viewW, PyData.plain, PyData.depth, PyData.eqv]
    · simp [sRet, sRetN, sNil, sSeq, sIf, sAsg, sDrop, sPar, tName, mAndV, mOrV, mNotV, mIsi, mVar, mVarK, mChain, mCon, startE, isiW, tyW, kb1, kb2, kb3, kb4, kb5, kb6, kb7, kc1, kc2, kc3, kc4, kc5, kc6, kc7, kt1, kt2, kt3, kt4, kt5, kt6, kt7, truW, ordF, Ord.int, Ord.nat, mIf, mNot, mTru, mB, mBin, mCB, un, lenW, seqOf, tupOf, lstOf, mCons, mNil, mTup, mCall, isNF, wipeE, List.set, cBad, isRow, eqF, viewD, viewW, PyData.plain, PyData.depth, PyData.eqv]
    · cases h : isKeyN 3 k <;> simp [sRet, sRetN, sNil, sSeq, sIf, sAsg, sDrop, sPar, tName, mAndV, mOrV, mNotV, mIsi, mVar, mVarK, mChain, mCon, startE, isiW, tyW, kb1, kb2, kb3, kb4, kb5, kb6, kb7, kc1, kc2, kc3, kc4, kc5, kc6, kc7, kt1, kt2, kt3, kt4, kt5, kt6, kt7, truW, ordF, Ord.int, Ord.nat, mIf, mNot, mTru, mB, mBin, mCB, un, lenW, seqOf, tupOf, lstOf, mCons, mNil, mTup, mCall, isNF, wipeE, List.set, cBad, isRow, eqF, viewD, viewW, PyData.plain, PyData.depth, PyData.eqv, ixF, atI, ixN, ev_law_is_cells, h]
    · have : ¬ ((l.length : Int) + 1 + 1 + 1 = 2) := by omega
      simp [sRet, sRetN, sNil, sSeq, sIf, sAsg, sDrop, sPar, tName, mAndV, mOrV, mNotV, mIsi, mVar, mVarK, mChain, mCon, startE, isiW, tyW, kb1, kb2, kb3, kb4, kb5, kb6, kb7, kc1, kc2, kc3, kc4, kc5, kc6, kc7, kt1, kt2, kt3, kt4, kt5, kt6, kt7, truW, ordF, Ord.int, Ord.nat, mIf, mNot, mTru, mB, mBin, mCB, un, lenW, seqOf, tupOf, lstOf, mCons, mNil, mTup, mCall, isNF, wipeE, List.set, cBad, isRow, eqF, viewD, viewW, PyData.plain, PyData.depth, PyData.eqv, this]
  | _ => simp [sRet, sRetN, sNil, sSeq, sIf, sAsg, sDrop, sPar, tName, mAndV, mOrV, mNotV, mIsi, mVar, mVarK, mChain, mCon, startE, isiW, tyW, kb1, kb2, kb3, kb4, kb5, kb6, kb7, kc1, kc2, kc3, kc4, kc5, kc6, kc7, kt1, kt2, kt3, kt4, kt5, kt6, kt7, truW, ordF, Ord.int, Ord.nat, mIf, mNot, mTru, mB, mBin, mCB, un, lenW, seqOf, tupOf, lstOf, mCons, mNil, mTup, mCall, isNF, wipeE, List.set, cBad, isRow]
theorem TupW.sl1 {ds : List PyData} {w : W} (h : TupW ds w) (S : Store) : ∃ w', slF false w (some 1) none S = some (w', S) ∧ TupW (ds.drop 1) w' := by
  unfold slF
  rw [h.tup]
  simp only [List.length_map]
  have e1 : HT.sIx ds.length 0 (some 1) = min 1 ds.length := HT.sIx_nat ds.length 0 1
  have e2 : HT.sIx ds.length ds.length none = ds.length := rfl
  rw [e1, e2]
  cases ds with
  | nil => exact ⟨w, by simp, by simpa using h⟩
  | cons d l =>
    refine ⟨.dat (.tuple l), ?_, .of _⟩
    have e : min 1 (d :: l).length = 1 := by simp
    rw [if_neg (by rw [e]; simp)]
    have : cutW ((d :: l).map W.dat) (some 1) none = l.map W.dat := by
      unfold cutW
      rw [List.length_map, e1, e2, e]
      show List.take l.length (l.map W.dat) = l.map W.dat
      rw [List.take_of_length_le (by simp)]
    rw [this, mkTup_dat]
theorem zip_next (a b : List W) (S : Store) : ∀ i, (Iter.zip (.items a) (.items b)).next i S = some (List.zipWith (fun x y => mkTup [x, y]) a b)[i]? := by
  intro i
  rw [List.getElem?_zipWith]
  show (match some a[i]?, some b[i]? with | some (some x), some (some y) => _ | some none, some _ => _ | some _, some none => _ | _, _ => _) = _
  cases a[i]? <;> cases b[i]? <;> rfl
def lacks : W → Bool
  | .dat (.tuple [a, b]) => !decide (rowKey a < rowKey b)
  | _ => false
theorem lacks_asc : ∀ ds : List PyData, ((List.zipWith (fun x y => mkTup [x, y]) (ds.map W.dat) ((ds.drop 1).map W.dat)).filter lacks).isEmpty = asc (ds.map rowKey)
  | [] => rfl
  | [a] => rfl
  | a :: b :: l => by
    have ih := lacks_asc (b :: l)
    simp only [List.drop_succ_cons, List.drop_zero, List.map_cons, List.zipWith_cons_cons, asc] at ih ⊢
    rw [List.filter_cons]
    have e : lacks (mkTup [W.dat a, W.dat b]) = !decide (rowKey a < rowKey b) := rfl
    rw [e]
    cases h : decide (rowKey a < rowKey b) with
    | true => rw [if_neg (by simp), Bool.true_and]; exact ih
    | false => simp
theorem ev_law_are_rows {ds : List PyData} {w : W} (hw : TupW ds w) (bs : List Nat) (S : Store) (h : ds.length ≤ 2000) : F__law_are_rows bs [w] S = .ok (.bl (areRows ds)) S := by
  unfold F__law_are_rows
  rw [fnM_eq (by rfl)]
  have hi : ∀ bs e f, mIsi "tuple" (mVar 0) bs [some w, e, f] S = .ok (.bl true) S := fun bs e f => by simp [mIsi, mVar, hw.weak, hw.isi]
  have hv : ∀ bs e f, mVar 0 bs [some w, e, f] S = .ok w S := fun bs e f => by simp [mVar, hw.weak]
  have ht : ∀ bs e f, mIt (mVar 0) bs [some w, e, f] S = .ok (.items (ds.map .dat)) S := fun bs e f => by simp [mIt, mVar, hw.weak, hw.it]
  have se : startE 3 [w] = [some w, none, none] := rfl
  rw [se]
  have look := forG_look (ws := ds.map .dat) (bd := tBody (tName 1) (sIf cBad (sRet (mCon (.bool false))) sNil)) (bs := S.length :: bs) (S := S) (r := .bl false) (fun env => ∃ x, env = [some w, x, none]) (fun x => match x with | .dat d => isRow d | _ => true) (fun x hx env hR => by
    obtain ⟨d, _, rfl⟩ := List.mem_map.mp hx
    obtain ⟨y, rfl⟩ := hR
    have b : tBody (tName 1) (sIf cBad (sRet (mCon (.bool false))) sNil) (.dat d) (S.length :: bs) [some w, y, none] S = sIf cBad (sRet (mCon (.bool false))) sNil (S.length :: bs) [some w, some (.dat d), none] S := rfl
    rw [b]
    unfold sIf
    rw [ev_bad, so_ok]
    exact ⟨fun z => ⟨[some w, some (.dat d), none], by rw [show isRow d = true from z]; rfl, _, rfl⟩, fun z => by rw [show isRow d = false from z]; rfl⟩) (ds.map .dat) 0 [some w, none, none] rfl ⟨_, rfl⟩
  have ea : ((ds.map W.dat).all fun x => match x with | .dat d => isRow d | _ => true) = ds.all isRow := by rw [List.all_map]; rfl
  rw [ea] at look
  have fuel : (Iter.items (ds.map W.dat)).fuel = (ds.map W.dat).length + 1 := rfl
  have sf : sFor (mIt (mVar 0)) (tName 1) (sIf cBad (sRet (mCon (.bool false))) sNil) (S.length :: bs) [some w, none, none] S = forG (.items (ds.map .dat)) (tBody (tName 1) (sIf cBad (sRet (mCon (.bool false))) sNil)) ((ds.map W.dat).length + 1) 0 (S.length :: bs) [some w, none, none] S := by
    unfold sFor
    rw [ht, so_ok, fuel]
  have head : m__law_are_rows (S.length :: bs) [some w, none, none] S = (sFor (mIt (mVar 0)) (tName 1) (sIf cBad (sRet (mCon (.bool false))) sNil) (S.length :: bs) [some w, none, none] S).andThen fun env1 S1 => sRet (mBin (eqF false) (mComp false (mZip (mCons (mVar 0) (mCons (mSl (slF false) (mVar 0) (mPart (mCon (.int 1))) mNoPart) mNil))) [1, 2] (tTup 2 (tCons (tName 1) (tCons (tName 2) tNil))) (mNot (mB (mBin (ordF .lt) (mBin ixF (mVar 1) (mCon (.int 0))) (mBin ixF (mVar 2) (mCon (.int 0)))))) (mCon (.int 1))) (mLst false mNil)) (S.length :: bs) env1 S1 := by
    unfold m__law_are_rows sSeq sIf mNot mTru
    rw [hi, Out.bind_ok]
    rfl
  rw [head, sf]
  have val : areRows ds = (ds.all isRow && asc (ds.map rowKey)) := by
    unfold areRows
    rw [decide_eq_true h, Bool.true_and]
  rw [val]
  cases hr : ds.all isRow with
  | false =>
    rw [look.2 hr]
    exact popR_dat
  | true =>
    obtain ⟨env', l1, x, rfl⟩ := look.1 hr
    rw [l1, then_nx]
    obtain ⟨w', s1, s2⟩ := hw.sl1 S
    have z : mZip (mCons (mVar 0) (mCons (mSl (slF false) (mVar 0) (mPart (mCon (.int 1))) mNoPart) mNil)) (S.length :: bs) [some w, x, none] S = .ok (.zip (.items (ds.map .dat)) (.items ((ds.drop 1).map .dat))) S := by
      have a2 : mSl (slF false) (mVar 0) (mPart (mCon (.int 1))) mNoPart (S.length :: bs) [some w, x, none] S = .ok w' S := by
        simp only [mSl, hv, Out.bind_ok, mPart, mCon, mNoPart, s1]
      unfold mZip
      rw [mCons_ok (hv _ _ _) (mCons_ok a2 mNil_ok), Out.bind_ok]
      show (match zipO S w w' with | some it => _ | none => _) = _
      unfold zipO iterT
      rw [hw.tup, s2.tup]
      rfl
    have comp := mComp_ifIt (k := false) (vs := [1, 2]) (zs := List.zipWith (fun x y => mkTup [x, y]) (ds.map W.dat) ((ds.drop 1).map W.dat)) (t := tTup 2 (tCons (tName 1) (tCons (tName 2) tNil))) (d := .int 1)
      (c := mNot (mB (mBin (ordF .lt) (mBin ixF (mVar 1) (mCon (.int 0))) (mBin ixF (mVar 2) (mCon (.int 0)))))) z (zip_next _ _ S) (by simp [Iter.fuel]; omega) (fun p => match p with | .dat (.tuple [a, b]) => [some w, some (.dat a), some (.dat b)] | _ => []) lacks
      (fun p hp => by
        obtain ⟨i, hi⟩ := List.getElem?_of_mem hp
        rw [List.getElem?_zipWith] at hi
        rw [List.getElem?_map, List.getElem?_map] at hi
        cases h1 : ds[i]? with
        | none => rw [h1] at hi; simp at hi
        | some a =>
          cases h2 : (ds.drop 1)[i]? with
          | none => rw [h1, h2] at hi; simp at hi
          | some b =>
            rw [h1, h2] at hi
            cases hi
            rfl) (fun p hp => by
        obtain ⟨i, hi⟩ := List.getElem?_of_mem hp
        rw [List.getElem?_zipWith] at hi
        rw [List.getElem?_map, List.getElem?_map] at hi
        cases h1 : ds[i]? with
        | none => rw [h1] at hi; simp at hi
        | some a =>
          cases h2 : (ds.drop 1)[i]? with
          | none => rw [h1, h2] at hi; simp at hi
          | some b =>
            rw [h1, h2] at hi
            cases hi
            have ma : a ∈ ds := List.mem_of_getElem? h1
            have mb : b ∈ ds := List.mem_of_mem_drop (List.mem_of_getElem? h2)
            obtain ⟨va, ha⟩ := isRow_shape (List.all_eq_true.mp hr a ma)
            obtain ⟨vb, hb⟩ := isRow_shape (List.all_eq_true.mp hr b mb)
            have qa : ixF (S.length :: bs) (.dat a) (.int 0) S = some (.dat (tI (rowKey a)), S) := by
              have q2 : ixF (S.length :: bs) (.dat (.tuple [tI (rowKey a), va])) (.int 0) S = some (.dat (tI (rowKey a)), S) := rfl
              rw [← ha] at q2; exact q2
            have qb : ixF (S.length :: bs) (.dat b) (.int 0) S = some (.dat (tI (rowKey b)), S) := by
              have q2 : ixF (S.length :: bs) (.dat (.tuple [tI (rowKey b), vb])) (.int 0) S = some (.dat (tI (rowKey b)), S) := rfl
              rw [← hb] at q2; exact q2
            show mNot _ _ [some w, some (.dat a), some (.dat b)] S = .ok (!decide (rowKey a < rowKey b)) S
            simp only [mNot, mB, mBin, mVar, mCon, List.getElem?_cons_zero, List.getElem?_cons_succ, W.weak_dat, Out.bind_ok, qa, qb, lt_t]) (by simp; omega)
    have q := eq_none (S.length :: bs) ((List.zipWith (fun x y => mkTup [x, y]) (ds.map W.dat) ((ds.drop 1).map W.dat)).filter lacks) S
    rw [lacks_asc] at q
    simp only [newL_f] at comp
    have p0 : mLst false mNil (S.length :: bs) [some w, x, none] S = .ok (mkLst []) S := rfl
    simp only [sRet, mBin, comp, p0, Out.bind_ok, q, so_ok, out_rt, popR_dat, Bool.true_and]
theorem ev_law_are_rows_no {d : PyData} (hd : ∀ ds, d ≠ .tuple ds) (bs : List Nat) (S : Store) : F__law_are_rows bs [.dat d] S = .ok (.bl false) S := by
  unfold F__law_are_rows
  rw [fnM_eq (by rfl)]
  cases d with
  | tuple ds => exact absurd rfl (hd ds)
  | _ => simp [sRet, sRetN, sNil, sSeq, sIf, sAsg, sDrop, sPar, tName, mAndV, mOrV, mNotV, mIsi, mVar, mVarK, mChain, mCon, startE, isiW, tyW, kb1, kb2, kb3, kb4, kb5, kb6, kb7, kc1, kc2, kc3, kc4, kc5, kc6, kc7, kt1, kt2, kt3, kt4, kt5, kt6, kt7, truW, ordF, Ord.int, Ord.nat, mIf, mNot, mTru, mB, mBin, mCB, un, lenW, seqOf, tupOf, lstOf, mCons, mNil, mTup, mCall, isNF, wipeE, List.set, m__law_are_rows]
end V

set_option maxHeartbeats 4000000
namespace V
open PySem L2 PyProof.Rows Rf

theorem bn1 : (true != false) = true := rfl
theorem bn2 : (false != false) = false := rfl
theorem bn3 : (true != true) = false := rfl
theorem bn4 : (false != true) = true := rfl
theorem add_int (k : Bool) (bs : List Nat) (i j : Int) (S : Store) : addF k bs (.int i) (.int j) S = some (.int (i + j), S) := rfl
theorem isN_n (neg : Bool) (bs : List Nat) (S : Store) : isNF neg bs .non .non S = some (.bl (true != neg), S) := rfl
theorem le1 (a : W) : ([a].length ≤ 100000) = True := by simp
theorem le2 (a b : W) : ([a, b].length ≤ 100000) = True := by simp
def stretchAt (cs : List Int) (at_ : Nat) (most : Int) : Option (List Int) := match cs[at_]? with
  | none => none
  | some c => if 1 ≤ c ∧ c ≤ most ∧ at_ + c.toNat < cs.length then some ((cs.drop (at_ + 1)).take c.toNat) else none
theorem stretch_len {cs : List Int} {a : Nat} {m : Int} {st : List Int} (h : stretchAt cs a m = some st) : 1 ≤ st.length ∧ (st.length : Int) ≤ m ∧ a + st.length < cs.length ∧ cs[a]? = some (st.length : Int) ∧ st = (cs.drop (a + 1)).take st.length := by
  unfold stretchAt at h
  split at h
  · cases h
  · rename_i c hc
    split at h
    · rename_i ok
      obtain ⟨h1, h2, h3⟩ := ok
      cases h
      have hl : ((cs.drop (a + 1)).take c.toNat).length = c.toNat := by
        rw [List.length_take, List.length_drop]; omega
      rw [hl]
      exact ⟨by omega, by omega, by omega, by rw [hc]; congr 1; omega, rfl⟩
    · cases h
theorem isN_t (neg : Bool) (bs : List Nat) (k : List Int) (S : Store) : isNF neg bs (.dat (tI k)) .non S = some (.bl (false != neg), S) := rfl
def optW : Option (List Int) → W
  | none => .non
  | some st => .dat (tI st)
theorem len_t (cs : List Int) (S : Store) : lenW S (.dat (tI cs)) = some (.int cs.length) := by simp [lenW, seqOf, tupOf, tI]
theorem ix_t {cs : List Int} {a : Nat} {c : Int} (h : cs[a]? = some c) (bs : List Nat) (S : Store) : ixF bs (.dat (tI cs)) (.int a) S = some (.int c, S) := by
  show (atI ((cs.map PyData.int).map W.dat) (a : Int)).map (·, S) = _
  rw [at_int (x := W.int c) (by rw [List.getElem?_map, List.getElem?_map, h]; rfl)]
  rfl
theorem sl_t (cs : List Int) (a c : Nat) (h : a < cs.length) (S : Store) : slF false (.dat (tI cs)) (some ((a : Int) + 1)) (some ((a : Int) + 1 + (c : Int))) S = some (.dat (tI ((cs.drop (a + 1)).take c)), S) := by
  have e1 : HT.sIx cs.length 0 (some ((a : Int) + 1)) = a + 1 := by
    rw [show (a : Int) + 1 = ((a + 1 : Nat) : Int) by omega, HT.sIx_nat]; omega
  have e2 : HT.sIx cs.length cs.length (some ((a : Int) + 1 + (c : Int))) = min (a + 1 + c) cs.length := by
    rw [show (a : Int) + 1 + (c : Int) = ((a + 1 + c : Nat) : Int) by omega, HT.sIx_nat]
  unfold slF tI
  simp only [tupOf, List.length_map, e1, e2]
  rw [if_neg (by omega)]
  have : cutW ((cs.map PyData.int).map W.dat) (some ((a : Int) + 1)) (some ((a : Int) + 1 + (c : Int))) = ((((cs.drop (a + 1)).take c).map PyData.int).map W.dat) := by
    unfold cutW
    simp only [List.length_map, e1, e2]
    rw [← List.map_drop, ← List.map_drop, ← List.map_take, ← List.map_take]
    congr 2
    rw [List.take_eq_take_iff, List.length_drop]
    omega
  rw [this, mkTup_dat]
theorem eq_int (neg : Bool) (bs : List Nat) (i j : Int) (S : Store) : eqF neg bs (.int i) (.int j) S = some (.bl (decide (i = j) != neg), S) := by
  have h : PyData.eqv (.int i) (.int j) = decide (i = j) := by
    rw [← int_bd]
    rfl
  rw [← h]
  rfl
theorem startE3 (a b c : W) : startE 4 [a, b, c] = [some a, some b, some c, none] := rfl
theorem ev_stretch (bs : List Nat) (cs : List Int) (a : Nat) (m : Int) (S : Store) : F__stretch bs [.dat (tI cs), .int a, .int m] S = .ok (optW (stretchAt cs a m)) S := by
  unfold F__stretch
  rw [fnM_eq (by rfl)]
  by_cases h : cs.length ≤ a
  · have h' : (cs.length : Int) ≤ (a : Int) := by omega
    have hn : stretchAt cs a m = none := by unfold stretchAt; rw [List.getElem?_eq_none h]
    rw [hn]
    simp only [sRet, sRetN, sNil, sSeq, sIf, sAsg, sDrop, sPar, tName, mAndV, mNotV, mVar, mVarK, mChain, mCon, mOr, mAnd, mIf, mNot, mTru, mB, mBin, mCB, un, mCons, mNil, mTup, mCall, mMt, mSl, mPart, mNoPart, ordF, Ord.int, isN_n, add_int, bn1, bn2, bn3, bn4, le1, le2, truW, List.getElem?_cons_zero, List.getElem?_cons_succ, W.weak_dat, W.weak_loc, Out.bind_ok, so_ok, then_nx, then_rt, turn_nx, turn_rt, Option.map_some, List.set_cons_zero, List.set_cons_succ, if_true, if_false, Bool.not_true, Bool.not_false, Bool.false_eq_true, out_rt, out_nx, startE3, m__stretch, len_t, decide_eq_true h', optW]
    exact popR_dat
  · have h' : ¬ (cs.length : Int) ≤ (a : Int) := by omega
    obtain ⟨c, hc⟩ : ∃ c, cs[a]? = some c := ⟨_, List.getElem?_eq_getElem (by omega)⟩
    by_cases h1 : 1 ≤ c
    · by_cases h2 : c ≤ m
      · have e : c = (c.toNat : Int) := by omega
        have q := sl_t cs a c.toNat (by omega) S
        rw [← e] at q
        have ql : (((cs.drop (a + 1)).take c.toNat).length : Int) = c ↔ a + c.toNat < cs.length := by
          rw [List.length_take, List.length_drop]; omega
        have hs : stretchAt cs a m = if a + c.toNat < cs.length then some ((cs.drop (a + 1)).take c.toNat) else none := by
          unfold stretchAt
          rw [hc]
          simp only [h1, h2, true_and]
        rw [hs]
        have eq1 : eqF false (S.length :: bs) (.int (((cs.drop (a + 1)).take c.toNat).length : Int)) (.int c) S = some (.bl (decide (a + c.toNat < cs.length)), S) := by
          rw [eq_int, decide_eq_decide.mpr ql]
          cases decide (a + c.toNat < cs.length) <;> rfl
        have run : m__stretch (S.length :: bs) [some (.dat (tI cs)), some (.int a), some (.int m), none] S = .rt (if a + c.toNat < cs.length then .dat (tI ((cs.drop (a + 1)).take c.toNat)) else .non) S := by
          simp only [m__stretch, sSeq, sIf, sAsg, sRet, mOr, mIf, mNot, mB, mBin, mChain, mSl, mPart, mCB, un, mCons, mNil, mVar, mCon, List.getElem?_cons_zero, List.getElem?_cons_succ, W.weak_dat, Out.bind_ok, len_t, Option.map_some, ordF, Ord.int, so_ok, decide_eq_false h', Bool.false_eq_true, if_false, ix_t hc, decide_eq_true h1, if_true, decide_eq_true h2, Bool.not_true, sNil, then_nx, addF, q, tName, List.set, eq1]
          by_cases z : a + c.toNat < cs.length
          · simp only [decide_eq_true z, if_true, if_pos z, Out.bind_ok, so_ok]
          · simp only [decide_eq_false z, Bool.false_eq_true, if_false, if_neg z, Out.bind_ok, so_ok]
        show popR S.length (m__stretch (S.length :: bs) [some (.dat (tI cs)), some (.int a), some (.int m), none] S).out = _
        rw [run]
        by_cases z : a + c.toNat < cs.length
        · rw [if_pos z, if_pos z]; exact popR_dat
        · rw [if_neg z, if_neg z]; exact popR_dat
      · have hs : stretchAt cs a m = none := by
          unfold stretchAt; rw [hc]; simp [h2]
        rw [hs]
        simp only [sRet, sRetN, sNil, sSeq, sIf, sAsg, sDrop, sPar, tName, mAndV, mNotV, mVar, mVarK, mChain, mCon, mOr, mAnd, mIf, mNot, mTru, mB, mBin, mCB, un, mCons, mNil, mTup, mCall, mMt, mSl, mPart, mNoPart, ordF, Ord.int, isN_n, add_int, bn1, bn2, bn3, bn4, le1, le2, truW, List.getElem?_cons_zero, List.getElem?_cons_succ, W.weak_dat, W.weak_loc, Out.bind_ok, so_ok, then_nx, then_rt, turn_nx, turn_rt, Option.map_some, List.set_cons_zero, List.set_cons_succ, if_true, if_false, Bool.not_true, Bool.not_false, Bool.false_eq_true, out_rt, out_nx, startE3, m__stretch, len_t, decide_eq_false h', ix_t hc, decide_eq_true h1, decide_eq_false h2, optW]
        exact popR_dat
    · have hs : stretchAt cs a m = none := by
        unfold stretchAt; rw [hc]; simp [h1]
      rw [hs]
      simp only [sRet, sRetN, sNil, sSeq, sIf, sAsg, sDrop, sPar, tName, mAndV, mNotV, mVar, mVarK, mChain, mCon, mOr, mAnd, mIf, mNot, mTru, mB, mBin, mCB, un, mCons, mNil, mTup, mCall, mMt, mSl, mPart, mNoPart, ordF, Ord.int, isN_n, add_int, bn1, bn2, bn3, bn4, le1, le2, truW, List.getElem?_cons_zero, List.getElem?_cons_succ, W.weak_dat, W.weak_loc, Out.bind_ok, so_ok, then_nx, then_rt, turn_nx, turn_rt, Option.map_some, List.set_cons_zero, List.set_cons_succ, if_true, if_false, Bool.not_true, Bool.not_false, Bool.false_eq_true, out_rt, out_nx, startE3, m__stretch, len_t, decide_eq_false h', ix_t hc, decide_eq_false h1, optW]
      exact popR_dat
end V

set_option maxHeartbeats 4000000
namespace V
open PySem L2 PyProof.Rows Rf

abbrev Row := List Int × List Int
def rowD (r : Row) : PyData := .tuple [tI r.1, tI r.2]
def rowsW (rs : List Row) : List W := rs.map fun r => .dat (rowD r)
def parseAt (cs : List Int) : Nat → Nat → Option (List Row)
  | 0, _ => some []
  | f + 1, a => if cs.length ≤ a then some [] else match stretchAt cs a 3 with
    | none => none
    | some k => match stretchAt cs (a + 1 + k.length) 8 with
      | none => none
      | some v => (parseAt cs f (a + 2 + k.length + v.length)).map fun rs => (k, v) :: rs
theorem st_get (S : Store) (x : Cell) : (S ++ [x])[S.length]? = some x := by simp
theorem st_set (S : Store) (x y : Cell) : (S ++ [x]).set S.length y = S ++ [y] := by simp
theorem may_dat (bs : List Nat) (n : Nat) (d : PyData) : mayW bs n (.dat d) = true := by
  unfold mayW
  rw [List.all_eq_true]
  intro b _
  simp [W.und]
theorem app_st {bs : List Nat} {S : Store} {us : List W} {d : PyData} (h : us.length < 100000) : appF bs (.loc S.length) [.dat d] (S ++ [.lst us]) = some (.non, S ++ [.lst (us ++ [.dat d])]) := by
  unfold appF
  simp only [st_get]
  rw [if_pos ⟨h, may_dat _ _ _⟩, st_set]
theorem ty_st (S : Store) (us : List W) : wTy .lst (.loc S.length) (S ++ [.lst us]) = true := by simp [wTy, lstOf, st_get]
theorem tup2 (a b : PyData) : mkTup [.dat a, .dat b] = .dat (.tuple [a, b]) := rfl
abbrev wC : M Bool := mB (mBin (ordF .lt) (mVar 2) (mCB (un lenW) (mCons (mVar 0) mNil)))
abbrev wB : MS := (sSeq (sAsg (mCall F__stretch (mCons (mVar 0) (mCons (mVar 2) (mCons (mCon (.int 3)) mNil)))) (tName 3)) (sSeq (sAsg (mIf (mB (mBin (isNF false) (mVar 3) (mCon .none))) (mCon .none) (mCall F__stretch (mCons (mVar 0) (mCons (mBin (addF false) (mBin (addF false) (mVar 2) (mCon (.int 1))) (mCB (un lenW) (mCons (mVar 3) mNil))) (mCons (mCon (.int 8)) mNil))))) (tName 4)) (sSeq (sIf (mB (mBin (isNF false) (mVar 4) (mCon .none))) (sRet (mCon .none)) sNil) (sSeq (sDrop (mMt .lst appF (mVar 1) (mCons (mTup (mCons (mVar 3) (mCons (mVar 4) mNil))) mNil))) (sAsg (mBin (addF false) (mBin (addF false) (mBin (addF false) (mVar 2) (mCon (.int 2))) (mCB (un lenW) (mCons (mVar 3) mNil))) (mCB (un lenW) (mCons (mVar 4) mNil))) (tName 2))))))
theorem body_none1 {bs : List Nat} {S : Store} {cs : List Int} {a : Nat} {acc : List W} {x y z : Option W} (h : stretchAt cs a 3 = none) :
    wB bs [some (.dat (tI cs)), some (.loc S.length), some (.int a), x, y, z] (S ++ [.lst acc]) = .rt .non (S ++ [.lst acc]) := by
  have q := ev_stretch bs cs a 3 (S ++ [.lst acc])
  rw [h] at q
  simp only [sRet, sRetN, sNil, sSeq, sIf, sAsg, sDrop, sPar, tName, mAndV, mNotV, mVar, mVarK, mChain, mCon, mOr, mAnd, mIf, mNot, mTru, mB, mBin, mCB, un, mCons, mNil, mTup, mCall, mMt, mSl, mPart, mNoPart, ordF, Ord.int, isN_n, add_int, bn1, bn2, bn3, bn4, le1, le2, truW, List.getElem?_cons_zero, List.getElem?_cons_succ, W.weak_dat, W.weak_loc, Out.bind_ok, so_ok, then_nx, then_rt, turn_nx, turn_rt, Option.map_some, List.set_cons_zero, List.set_cons_succ, if_true, if_false, Bool.not_true, Bool.not_false, Bool.false_eq_true, out_rt, out_nx, wB, q, optW]
theorem body_none2 {bs : List Nat} {S : Store} {cs : List Int} {a : Nat} {acc : List W} {x y z : Option W} {k : List Int} (h : stretchAt cs a 3 = some k) (h2 : stretchAt cs (a + 1 + k.length) 8 = none) :
    wB bs [some (.dat (tI cs)), some (.loc S.length), some (.int a), x, y, z] (S ++ [.lst acc]) = .rt .non (S ++ [.lst acc]) := by
  have e : (a : Int) + 1 + (k.length : Int) = ((a + 1 + k.length : Nat) : Int) := by omega
  have q := ev_stretch bs cs a 3 (S ++ [.lst acc])
  have q2 := ev_stretch bs cs (a + 1 + k.length) 8 (S ++ [.lst acc])
  rw [h] at q
  rw [h2] at q2
  simp only [sRet, sRetN, sNil, sSeq, sIf, sAsg, sDrop, sPar, tName, mAndV, mNotV, mVar, mVarK, mChain, mCon, mOr, mAnd, mIf, mNot, mTru, mB, mBin, mCB, un, mCons, mNil, mTup, mCall, mMt, mSl, mPart, mNoPart, ordF, Ord.int, isN_n, add_int, bn1, bn2, bn3, bn4, le1, le2, truW, List.getElem?_cons_zero, List.getElem?_cons_succ, W.weak_dat, W.weak_loc, Out.bind_ok, so_ok, then_nx, then_rt, turn_nx, turn_rt, Option.map_some, List.set_cons_zero, List.set_cons_succ, if_true, if_false, Bool.not_true, Bool.not_false, Bool.false_eq_true, out_rt, out_nx, wB, q, optW, isN_t, len_t, e, q2]
theorem body_some {bs : List Nat} {S : Store} {cs : List Int} {a : Nat} {acc : List W} {x y z : Option W} {k v : List Int} (h : stretchAt cs a 3 = some k) (h2 : stretchAt cs (a + 1 + k.length) 8 = some v) (hl : acc.length < 100000) :
    wB bs [some (.dat (tI cs)), some (.loc S.length), some (.int a), x, y, z] (S ++ [.lst acc]) = .nx [some (.dat (tI cs)), some (.loc S.length), some (.int ((a + 2 + k.length + v.length : Nat) : Int)), some (.dat (tI k)), some (.dat (tI v)), z] (S ++ [.lst (acc ++ [.dat (rowD (k, v))])]) := by
  have e : (a : Int) + 1 + (k.length : Int) = ((a + 1 + k.length : Nat) : Int) := by omega
  have e2 : (a : Int) + 2 + (k.length : Int) + (v.length : Int) = ((a + 2 + k.length + v.length : Nat) : Int) := by omega
  have q := ev_stretch bs cs a 3 (S ++ [.lst acc])
  have q2 := ev_stretch bs cs (a + 1 + k.length) 8 (S ++ [.lst acc])
  have q3 := app_st (bs := bs) (S := S) (d := .tuple [tI k, tI v]) hl
  rw [h] at q
  rw [h2] at q2
  simp only [sRet, sRetN, sNil, sSeq, sIf, sAsg, sDrop, sPar, tName, mAndV, mNotV, mVar, mVarK, mChain, mCon, mOr, mAnd, mIf, mNot, mTru, mB, mBin, mCB, un, mCons, mNil, mTup, mCall, mMt, mSl, mPart, mNoPart, ordF, Ord.int, isN_n, add_int, bn1, bn2, bn3, bn4, le1, le2, truW, List.getElem?_cons_zero, List.getElem?_cons_succ, W.weak_dat, W.weak_loc, Out.bind_ok, so_ok, then_nx, then_rt, turn_nx, turn_rt, Option.map_some, List.set_cons_zero, List.set_cons_succ, if_true, if_false, Bool.not_true, Bool.not_false, Bool.false_eq_true, out_rt, out_nx, wB, q, optW, isN_t, len_t, e, q2, ty_st, tup2, q3, e2]
  rfl
theorem cond_w {bs : List Nat} {S : Store} {cs : List Int} {a : Nat} {u : W} {x y z : Option W} : wC bs [some (.dat (tI cs)), some u, some (.int a), x, y, z] S = .ok (decide (a < cs.length)) S := by
  have e : decide ((a : Int) < (cs.length : Int)) = decide (a < cs.length) := decide_eq_decide.mpr (by omega)
  simp only [sRet, sRetN, sNil, sSeq, sIf, sAsg, sDrop, sPar, tName, mAndV, mNotV, mVar, mVarK, mChain, mCon, mOr, mAnd, mIf, mNot, mTru, mB, mBin, mCB, un, mCons, mNil, mTup, mCall, mMt, mSl, mPart, mNoPart, ordF, Ord.int, isN_n, add_int, bn1, bn2, bn3, bn4, le1, le2, truW, List.getElem?_cons_zero, List.getElem?_cons_succ, W.weak_dat, W.weak_loc, Out.bind_ok, so_ok, then_nx, then_rt, turn_nx, turn_rt, Option.map_some, List.set_cons_zero, List.set_cons_succ, if_true, if_false, Bool.not_true, Bool.not_false, Bool.false_eq_true, out_rt, out_nx, wC, len_t, e]
theorem while_yes {c : M Bool} {b : MS} {F : Nat} {bs : List Nat} {env : Rf.Env} {S S1 : Store} (h : c bs env S = .ok true S1) : whileG c b (F + 1) bs env S = (b bs env S1).turn fun e S2 => whileG c b F bs e S2 := by
  show Out.so (c bs env S) env _ = _
  rw [h]
  rfl
theorem while_no {c : M Bool} {b : MS} {F : Nat} {bs : List Nat} {env : Rf.Env} {S S1 : Store} (h : c bs env S = .ok false S1) : whileG c b (F + 1) bs env S = .nx env S1 := by
  show Out.so (c bs env S) env _ = _
  rw [h]
  rfl
theorem while_rows (bs : List Nat) (S : Store) (cs : List Int) : ∀ (f F a : Nat) (acc : List Row) (x y z : Option W), cs.length < a + f → f < F → acc.length + cs.length < 100000 + a → match parseAt cs f a with
    | none => ∃ acc', whileG wC wB F bs [some (.dat (tI cs)), some (.loc S.length), some (.int a), x, y, z] (S ++ [.lst (rowsW acc)]) = .rt .non (S ++ [.lst acc'])
    | some rs => ∃ a' x' y', whileG wC wB F bs [some (.dat (tI cs)), some (.loc S.length), some (.int a), x, y, z] (S ++ [.lst (rowsW acc)]) = .nx [some (.dat (tI cs)), some (.loc S.length), some (.int a'), x', y', z] (S ++ [.lst (rowsW (acc ++ rs))])
  | _, 0, a, acc, x, y, z, h1, h2, h3 => by omega
  | 0, F + 1, a, acc, x, y, z, h1, h2, h3 => by
    refine ⟨a, x, y, ?_⟩
    unfold whileG
    rw [cond_w, so_ok, decide_eq_false (by omega), List.append_nil]
    rfl
  | f + 1, F + 1, a, acc, x, y, z, h1, h2, h3 => by
    by_cases hl : cs.length ≤ a
    · have e : parseAt cs (f + 1) a = some [] := by rw [parseAt, if_pos hl]
      rw [e]
      refine ⟨a, x, y, ?_⟩
      unfold whileG
      rw [cond_w, so_ok, decide_eq_false (by omega), List.append_nil]
      rfl
    · have un' := while_yes (b := wB) (F := F) (show wC bs [some (.dat (tI cs)), some (.loc S.length), some (.int a), x, y, z] (S ++ [.lst (rowsW acc)]) = .ok true (S ++ [.lst (rowsW acc)]) by rw [cond_w, decide_eq_true (by omega)])
      have e : parseAt cs (f + 1) a = match stretchAt cs a 3 with
        | none => none
        | some k => match stretchAt cs (a + 1 + k.length) 8 with
          | none => none
          | some v => (parseAt cs f (a + 2 + k.length + v.length)).map fun rs => (k, v) :: rs := by rw [parseAt, if_neg hl]
      rw [e, un']
      cases hk : stretchAt cs a 3 with
      | none =>
        exact ⟨rowsW acc, by rw [body_none1 hk]; rfl⟩
      | some k =>
        cases hv : stretchAt cs (a + 1 + k.length) 8 with
        | none => 
          simp only [hv]
          exact ⟨rowsW acc, by rw [body_none2 hk hv]; rfl⟩
        | some v =>
          simp only [hv]
          obtain ⟨k1, k2, k3, _⟩ := stretch_len hk
          obtain ⟨v1, v2, v3, _⟩ := stretch_len hv
          rw [body_some hk hv (by simp [rowsW]; omega), turn_nx]
          have eacc : rowsW acc ++ [.dat (rowD (k, v))] = rowsW (acc ++ [(k, v)]) := by simp [rowsW]
          rw [eacc]
          have ih := while_rows bs S cs f F (a + 2 + k.length + v.length) (acc ++ [(k, v)]) (some (.dat (tI k))) (some (.dat (tI v))) z (by omega) (by omega) (by simp; omega)
          cases hp : parseAt cs f (a + 2 + k.length + v.length) with
          | none => rw [hp] at ih; exact ih
          | some rs =>
            rw [hp] at ih
            obtain ⟨a', x', y', q⟩ := ih
            exact ⟨a', x', y', by rw [q]; simp⟩
end V

set_option maxHeartbeats 4000000
namespace V
open PySem L2 PyProof.Rows Rf

theorem mComp_mapIt {k : Bool} {mi : M Iter} {i : Nat} {vs : List Nat} {it : Iter} {zs : List W} {e : M W} {bs : List Nat} {env : Rf.Env} {S : Store} (hmi : mi bs env S = .ok it S) (hn : ∀ i, it.next i S = some zs[i]?) (hf : zs.length < it.fuel) (g : W → W)
    (he : ∀ w ∈ zs, e bs ((wipeE env vs).set i (some w)) S = .ok (g w) S) (hl : zs.length ≤ 100000) :
    mComp k mi vs (tName i) mYes e bs env S = .ok (newL k (zs.map g) S).1 (newL k (zs.map g) S).2 := by
  unfold mComp
  rw [hmi]
  simp only [Out.bind_ok]
  rw [compG_it hn (fun w => (wipeE env vs).set i (some w)) (fun w => some (g w)) (fun w _ => rfl) (fun w _ => rfl) (fun w hw y h => by cases h; exact he w hw) zs it.fuel 0 [] rfl (by simpa using hl) hf]
  have z : zs.filterMap (fun w => some (g w)) = zs.map g := by simp
  rw [z]
  simp only [List.nil_append, Out.bind_ok]
theorem len_st (S : Store) (us : List W) : lenW (S ++ [.lst us]) (.loc S.length) = some (.int us.length) := by simp [lenW, seqOf, tupOf, lstOf, st_get]
theorem it_st (S : Store) (us : List W) : iterA (S ++ [.lst us]) (.loc S.length) = some (.cell S.length) := by simp [iterA, iterT, tupOf, iterL, st_get]
theorem next_st (S : Store) (us : List W) (i : Nat) : (Iter.cell S.length).next i (S ++ [.lst us]) = some us[i]? := by simp [Iter.next, st_get]
theorem tup_st (bs : List Nat) (S : Store) (rs : List Row) : tupleF bs [.loc S.length] (S ++ [.lst (rowsW rs)]) = some (.dat (.tuple (rs.map rowD)), S ++ [.lst (rowsW rs)]) := by
  unfold tupleF rowsW
  simp [tupOf, lstOf, st_get]
  rw [mkTup_map]
theorem parse_len (cs : List Int) : ∀ (f a : Nat) (rs : List Row), parseAt cs f a = some rs → rs = [] ∨ a + rs.length ≤ cs.length
  | 0, a, rs, h => by cases h; exact .inl rfl
  | f + 1, a, rs, h => by
    rw [parseAt] at h
    split at h
    · cases h; exact .inl rfl
    · split at h
      · cases h
      · rename_i k hk
        split at h
        · cases h
        · rename_i v hv
          rw [Option.map_eq_some_iff] at h
          obtain ⟨rs', h1, rfl⟩ := h
          obtain ⟨k1, k2, k3, _⟩ := stretch_len hk
          obtain ⟨v1, v2, v3, _⟩ := stretch_len hv
          right
          rcases parse_len cs f _ rs' h1 with rfl | h2
          · simp; omega
          · simp; omega
def told (cs : List Int) : Option (List Row) := match parseAt cs (cs.length + 1) 0 with
  | none => none
  | some rs => if asc (rs.map (·.1)) = true then some rs else none
def toldW : Option (List Row) → W
  | none => .non
  | some rs => .dat (.tuple (rs.map rowD))
theorem popR_st {d : PyData} {S : Store} {c : Cell} : popR S.length (.ok (.dat d) (S ++ [c])) = .ok (.dat d) S := by
  rw [popR_ok rfl]
  simp
abbrev tailW : MS := (sSeq (sIf (mOr (mB (mBin (ordF .gt) (mCB (un lenW) (mCons (mVar 1) mNil)) (mCon (.int 2000)))) (mNot (mTru (mCall F__do_ascend (mCons (mComp false (mIt (mVar 1)) [5] (tName 5) mYes (mBin ixF (mVar 5) (mCon (.int 0)))) mNil))))) (sRet (mCon .none)) sNil) (sRet (mCB (tupleF) (mCons (mVar 1) mNil))))
theorem tail_w {bs : List Nat} {S : Store} {rs : List Row} {ks : List (List Int)} (hks : rs.map (·.1) = ks) {c : W} {x y z u : Option W} (hl : rs.length ≤ 2000) :
    tailW bs [some c, some (.loc S.length), x, y, z, u] (S ++ [.lst (rowsW rs)]) = .rt (toldW (if asc ks = true then some rs else none)) (S ++ [.lst (rowsW rs)]) := by
  have hm : mIt (mVar 1) bs [some c, some (.loc S.length), x, y, z, u] (S ++ [.lst (rowsW rs)]) = .ok (.cell S.length) (S ++ [.lst (rowsW rs)]) := by
    simp only [sRet, sRetN, sNil, sSeq, sIf, sAsg, sDrop, sPar, tName, mAndV, mNotV, mVar, mVarK, mChain, mCon, mOr, mAnd, mIf, mNot, mTru, mB, mBin, mCB, un, mCons, mNil, mTup, mCall, mMt, mSl, mPart, mNoPart, ordF, Ord.int, isN_n, add_int, bn1, bn2, bn3, bn4, le1, le2, truW, List.getElem?_cons_zero, List.getElem?_cons_succ, W.weak_dat, W.weak_loc, Out.bind_ok, so_ok, then_nx, then_rt, turn_nx, turn_rt, Option.map_some, List.set_cons_zero, List.set_cons_succ, if_true, if_false, Bool.not_true, Bool.not_false, Bool.false_eq_true, out_rt, out_nx, mIt, it_st]
  have comp := mComp_mapIt (k := false) (i := 5) (vs := [5]) (e := mBin ixF (mVar 5) (mCon (.int 0))) hm (next_st S (rowsW rs)) (by simp [Iter.fuel, rowsW]; omega) (fun w => match w with | .dat (.tuple (d :: _)) => .dat d | w => w) (fun w hw => by
    obtain ⟨r, _, rfl⟩ := List.mem_map.mp hw
    rfl) (by simp [rowsW]; omega)
  have e : ((rowsW rs).map fun w => match w with | .dat (.tuple (d :: _)) => W.dat d | w => w) = ks.map fun k => W.dat (tI k) := by
    rw [← hks]
    unfold rowsW
    rw [List.map_map, List.map_map]
    rfl
  rw [e] at comp
  simp only [newL_f, mkLst_map] at comp
  have c4 : mCall F__do_ascend (mCons (mComp false (mIt (mVar 1)) [5] (tName 5) mYes (mBin ixF (mVar 5) (mCon (.int 0)))) mNil) bs [some c, some (.loc S.length), x, y, z, u] (S ++ [.lst (rowsW rs)]) = .ok (.bl (asc ks)) (S ++ [.lst (rowsW rs)]) := by
    have a4 := mCons_ok comp (mNil_ok (bs := bs) (env := [some c, some (.loc S.length), x, y, z, u]))
    have hk : ks.length ≤ 100000 := by rw [← hks, List.length_map]; omega
    have c3 := ev_do_ascend bs ks (S ++ [Cell.lst (rowsW rs)]) hk
    rw [mCall_ok a4]
    rw [c3]
  have h' : ¬ (2000 : Int) < ((rowsW rs).length : Int) := by
    unfold rowsW
    rw [List.length_map]; omega
  have c5 : mNot (mTru (mCall F__do_ascend (mCons (mComp false (mIt (mVar 1)) [5] (tName 5) mYes (mBin ixF (mVar 5) (mCon (.int 0)))) mNil))) bs [some c, some (.loc S.length), x, y, z, u] (S ++ [.lst (rowsW rs)]) = .ok (!asc ks) (S ++ [.lst (rowsW rs)]) := by
    simp only [mNot, mTru, c4, Out.bind_ok, truW]
  have c6 : mOr (mB (mBin (ordF .gt) (mCB (un lenW) (mCons (mVar 1) mNil)) (mCon (.int 2000)))) (mNot (mTru (mCall F__do_ascend (mCons (mComp false (mIt (mVar 1)) [5] (tName 5) mYes (mBin ixF (mVar 5) (mCon (.int 0)))) mNil)))) bs [some c, some (.loc S.length), x, y, z, u] (S ++ [.lst (rowsW rs)]) = .ok (!asc ks) (S ++ [.lst (rowsW rs)]) := by
    have first : mB (mBin (ordF .gt) (mCB (un lenW) (mCons (mVar 1) mNil)) (mCon (.int 2000))) bs [some c, some (.loc S.length), x, y, z, u] (S ++ [.lst (rowsW rs)]) = .ok false (S ++ [.lst (rowsW rs)]) := by
      simp only [sRet, sRetN, sNil, sSeq, sIf, sAsg, sDrop, sPar, tName, mAndV, mNotV, mVar, mVarK, mChain, mCon, mOr, mAnd, mIf, mNot, mTru, mB, mBin, mCB, un, mCons, mNil, mTup, mCall, mMt, mSl, mPart, mNoPart, ordF, Ord.int, isN_n, add_int, bn1, bn2, bn3, bn4, le1, le2, truW, List.getElem?_cons_zero, List.getElem?_cons_succ, W.weak_dat, W.weak_loc, Out.bind_ok, so_ok, then_nx, then_rt, turn_nx, turn_rt, Option.map_some, List.set_cons_zero, List.set_cons_succ, if_true, if_false, Bool.not_true, Bool.not_false, Bool.false_eq_true, out_rt, out_nx, len_st, decide_eq_false h']
    show Out.bind _ _ = _
    rw [first, Out.bind_ok, if_neg (by simp)]
    exact c5
  have c7 : mCB (tupleF) (mCons (mVar 1) mNil) bs [some c, some (.loc S.length), x, y, z, u] (S ++ [.lst (rowsW rs)]) = .ok (.dat (.tuple (rs.map rowD))) (S ++ [.lst (rowsW rs)]) := by
    simp only [sRet, sRetN, sNil, sSeq, sIf, sAsg, sDrop, sPar, tName, mAndV, mNotV, mVar, mVarK, mChain, mCon, mOr, mAnd, mIf, mNot, mTru, mB, mBin, mCB, un, mCons, mNil, mTup, mCall, mMt, mSl, mPart, mNoPart, ordF, Ord.int, isN_n, add_int, bn1, bn2, bn3, bn4, le1, le2, truW, List.getElem?_cons_zero, List.getElem?_cons_succ, W.weak_dat, W.weak_loc, Out.bind_ok, so_ok, then_nx, then_rt, turn_nx, turn_rt, Option.map_some, List.set_cons_zero, List.set_cons_succ, if_true, if_false, Bool.not_true, Bool.not_false, Bool.false_eq_true, out_rt, out_nx, tup_st]
  unfold tailW sSeq sIf
  rw [c6, so_ok]
  cases asc ks with
  | true =>
    show SO.andThen (if false = true then _ else _) _ = _
    rw [if_neg (by simp)]
    show sRet _ _ _ _ = _
    unfold sRet
    rw [c7]
    rfl
  | false => rfl
theorem startE1 (a : W) : startE 6 [a] = [some a, none, none, none, none, none] := rfl
theorem ev_rows_in_cells (bs : List Nat) (cs : List Int) (S : Store) (hl : cs.length ≤ 2000) : F_rows_in_cells bs [.dat (tI cs)] S = .ok (toldW (told cs)) S := by
  unfold F_rows_in_cells
  rw [fnM_eq (by rfl), startE1]
  have head : m_rows_in_cells (S.length :: bs) [some (.dat (tI cs)), none, none, none, none, none] S = (whileG wC wB 1000000 (S.length :: bs) [some (.dat (tI cs)), some (.loc S.length), some (.int (0 : Nat)), none, none, none] (S ++ [.lst (rowsW [])])).andThen fun e S1 => tailW (S.length :: bs) e S1 := rfl
  rw [head]
  have w := while_rows (S.length :: bs) S cs (cs.length + 1) 1000000 0 [] none none none (by omega) (by omega) (by simp; omega)
  unfold told
  cases hp : parseAt cs (cs.length + 1) 0 with
  | none =>
    rw [hp] at w
    obtain ⟨acc', q⟩ := w
    rw [q, then_rt, out_rt]
    exact popR_st
  | some rs =>
    rw [hp] at w
    obtain ⟨a', x', y', q⟩ := w
    have hr : rs.length ≤ 2000 := by
      rcases parse_len cs _ _ _ hp with rfl | h
      · simp
      · omega
    rw [q, then_nx, List.nil_append, tail_w rfl hr, out_rt]
    simp only
    cases asc (rs.map (·.1)) with
    | true => exact popR_st
    | false => exact popR_st
theorem cells_ok {cs : List Int} {n : Int} (h : ∀ c ∈ cs, 0 ≤ c ∧ c ≤ 999999999999999999) (hl : (cs.length : Int) ≤ n) : areCells (tI cs) n = true := by
  unfold areCells tI
  simp only [List.length_map, Bool.and_eq_true, decide_eq_true_eq]
  refine ⟨hl, ?_⟩
  rw [List.all_eq_true]
  intro d hd
  obtain ⟨c, hc, rfl⟩ := List.mem_map.mp hd
  obtain ⟨h1, h2⟩ := h c hc
  simp [isCell, h1, h2]
theorem ev_rows_told (bs : List Nat) (cs : List Int) (S : Store) (h : ∀ c ∈ cs, 0 ≤ c ∧ c ≤ 999999999999999999) (hl : cs.length ≤ 2000) : F_rows_told bs [.dat (tI cs)] S = .ok (toldW (told cs)) S := by
  unfold F_rows_told
  rw [fnM_eq (by rfl)]
  have q := ev_are_cells (S.length :: bs) (tI cs) 30000 S (by omega)
  rw [cells_ok h (by omega)] at q
  have q2 := ev_rows_in_cells (S.length :: bs) cs S hl
  have run : m_rows_told (S.length :: bs) [some (.dat (tI cs))] S = .rt (toldW (told cs)) S := by
    simp only [sRet, sRetN, sNil, sSeq, sIf, sAsg, sDrop, sPar, tName, mAndV, mNotV, mVar, mVarK, mChain, mCon, mOr, mAnd, mIf, mNot, mTru, mB, mBin, mCB, un, mCons, mNil, mTup, mCall, mMt, mSl, mPart, mNoPart, ordF, Ord.int, isN_n, add_int, bn1, bn2, bn3, bn4, le1, le2, truW, List.getElem?_cons_zero, List.getElem?_cons_succ, W.weak_dat, W.weak_loc, Out.bind_ok, so_ok, then_nx, then_rt, turn_nx, turn_rt, Option.map_some, List.set_cons_zero, List.set_cons_succ, if_true, if_false, Bool.not_true, Bool.not_false, Bool.false_eq_true, out_rt, out_nx, m_rows_told, q, q2]
  show popR S.length (m_rows_told (S.length :: bs) [some (.dat (tI cs))] S).out = _
  rw [run, out_rt]
  cases told cs with
  | none => exact popR_dat
  | some rs => exact popR_dat
end V

set_option maxHeartbeats 4000000
namespace V
open PySem L2 PyProof.Rows Rf

def lawW (a : Nat) : Option (List Int) → W
  | none => .non
  | some st => .dat (.tuple [tI st, .int ((a + 1 + st.length : Nat) : Int)])
theorem startL3 (a b c : W) : startE 3 [a, b, c] = [some a, some b, some c] := rfl
theorem ev_law_stretch (bs : List Nat) (cs : List Int) (a : Nat) (m : Int) (S : Store) : F__law_stretch bs [.dat (tI cs), .int a, .int m] S = .ok (lawW a (stretchAt cs a m)) S := by
  unfold F__law_stretch
  rw [fnM_eq (by rfl), startL3]
  by_cases h : cs.length ≤ a
  · have h' : (cs.length : Int) ≤ (a : Int) := by omega
    have hn : stretchAt cs a m = none := by unfold stretchAt; rw [List.getElem?_eq_none h]
    rw [hn]
    simp only [sRet, sRetN, sNil, sSeq, sIf, sAsg, sDrop, sPar, tName, mAndV, mNotV, mVar, mVarK, mChain, mCon, mOr, mAnd, mIf, mNot, mTru, mB, mBin, mCB, un, mCons, mNil, mTup, mCall, mMt, mSl, mPart, mNoPart, ordF, Ord.int, isN_n, add_int, bn1, bn2, bn3, bn4, le1, le2, truW, List.getElem?_cons_zero, List.getElem?_cons_succ, W.weak_dat, W.weak_loc, Out.bind_ok, so_ok, then_nx, then_rt, turn_nx, turn_rt, Option.map_some, List.set_cons_zero, List.set_cons_succ, if_true, if_false, Bool.not_true, Bool.not_false, Bool.false_eq_true, out_rt, out_nx, m__law_stretch, len_t, decide_eq_true h', lawW]
    exact popR_dat
  · have h' : ¬ (cs.length : Int) ≤ (a : Int) := by omega
    obtain ⟨c, hc⟩ : ∃ c, cs[a]? = some c := ⟨_, List.getElem?_eq_getElem (by omega)⟩
    by_cases h1 : 1 ≤ c
    · by_cases h2 : c ≤ m
      · by_cases h3 : a + c.toNat < cs.length
        · have h3' : ¬ (cs.length : Int) ≤ (a : Int) + c := by omega
          have e : c = (c.toNat : Int) := by omega
          have q := sl_t cs a c.toNat (by omega) S
          rw [← e] at q
          have hs : stretchAt cs a m = some ((cs.drop (a + 1)).take c.toNat) := by
            unfold stretchAt; rw [hc]; simp [h1, h2, h3]
          have hlen : ((cs.drop (a + 1)).take c.toNat).length = c.toNat := by
            rw [List.length_take, List.length_drop]; omega
          have e2 : ((a + 1 + c.toNat : Nat) : Int) = (a : Int) + 1 + c := by omega
          rw [hs]
          simp only [sRet, sRetN, sNil, sSeq, sIf, sAsg, sDrop, sPar, tName, mAndV, mNotV, mVar, mVarK, mChain, mCon, mOr, mAnd, mIf, mNot, mTru, mB, mBin, mCB, un, mCons, mNil, mTup, mCall, mMt, mSl, mPart, mNoPart, ordF, Ord.int, isN_n, add_int, bn1, bn2, bn3, bn4, le1, le2, truW, List.getElem?_cons_zero, List.getElem?_cons_succ, W.weak_dat, W.weak_loc, Out.bind_ok, so_ok, then_nx, then_rt, turn_nx, turn_rt, Option.map_some, List.set_cons_zero, List.set_cons_succ, if_true, if_false, Bool.not_true, Bool.not_false, Bool.false_eq_true, out_rt, out_nx, m__law_stretch, len_t, decide_eq_false h', ix_t hc, decide_eq_true h1, decide_eq_true h2, decide_eq_false h3', q, tup2, lawW, hlen, e2]
          exact popR_dat
        · have h3' : (cs.length : Int) ≤ (a : Int) + c := by omega
          have hs : stretchAt cs a m = none := by
            unfold stretchAt; rw [hc]; simp [h3]
          rw [hs]
          simp only [sRet, sRetN, sNil, sSeq, sIf, sAsg, sDrop, sPar, tName, mAndV, mNotV, mVar, mVarK, mChain, mCon, mOr, mAnd, mIf, mNot, mTru, mB, mBin, mCB, un, mCons, mNil, mTup, mCall, mMt, mSl, mPart, mNoPart, ordF, Ord.int, isN_n, add_int, bn1, bn2, bn3, bn4, le1, le2, truW, List.getElem?_cons_zero, List.getElem?_cons_succ, W.weak_dat, W.weak_loc, Out.bind_ok, so_ok, then_nx, then_rt, turn_nx, turn_rt, Option.map_some, List.set_cons_zero, List.set_cons_succ, if_true, if_false, Bool.not_true, Bool.not_false, Bool.false_eq_true, out_rt, out_nx, m__law_stretch, len_t, decide_eq_false h', ix_t hc, decide_eq_true h1, decide_eq_true h2, decide_eq_true h3', lawW]
          exact popR_dat
      · have hs : stretchAt cs a m = none := by
          unfold stretchAt; rw [hc]; simp [h2]
        rw [hs]
        simp only [sRet, sRetN, sNil, sSeq, sIf, sAsg, sDrop, sPar, tName, mAndV, mNotV, mVar, mVarK, mChain, mCon, mOr, mAnd, mIf, mNot, mTru, mB, mBin, mCB, un, mCons, mNil, mTup, mCall, mMt, mSl, mPart, mNoPart, ordF, Ord.int, isN_n, add_int, bn1, bn2, bn3, bn4, le1, le2, truW, List.getElem?_cons_zero, List.getElem?_cons_succ, W.weak_dat, W.weak_loc, Out.bind_ok, so_ok, then_nx, then_rt, turn_nx, turn_rt, Option.map_some, List.set_cons_zero, List.set_cons_succ, if_true, if_false, Bool.not_true, Bool.not_false, Bool.false_eq_true, out_rt, out_nx, m__law_stretch, len_t, decide_eq_false h', ix_t hc, decide_eq_true h1, decide_eq_false h2, lawW]
        exact popR_dat
    · have hs : stretchAt cs a m = none := by
        unfold stretchAt; rw [hc]; simp [h1]
      rw [hs]
      simp only [sRet, sRetN, sNil, sSeq, sIf, sAsg, sDrop, sPar, tName, mAndV, mNotV, mVar, mVarK, mChain, mCon, mOr, mAnd, mIf, mNot, mTru, mB, mBin, mCB, un, mCons, mNil, mTup, mCall, mMt, mSl, mPart, mNoPart, ordF, Ord.int, isN_n, add_int, bn1, bn2, bn3, bn4, le1, le2, truW, List.getElem?_cons_zero, List.getElem?_cons_succ, W.weak_dat, W.weak_loc, Out.bind_ok, so_ok, then_nx, then_rt, turn_nx, turn_rt, Option.map_some, List.set_cons_zero, List.set_cons_succ, if_true, if_false, Bool.not_true, Bool.not_false, Bool.false_eq_true, out_rt, out_nx, m__law_stretch, len_t, decide_eq_false h', ix_t hc, decide_eq_false h1, lawW]
      exact popR_dat
theorem eq_noneN (neg : Bool) (bs : List Nat) (l : List W) (S : Store) : eqF neg bs (mkLst (l.map fun _ => .dat (.int 1))) (mkLst []) S = some (.bl (l.isEmpty != neg), S) := by
  have h := eq_none bs l S
  have e : (l.map fun _ => W.dat (PyData.int 1)) = (l.map fun _ => PyData.int 1).map W.dat := by simp
  have e0 : mkLst [] = .dat (.list []) := rfl
  rw [e, mkLst_dat, e0] at h ⊢
  unfold eqF at h ⊢
  simp only [viewD, viewW] at h ⊢
  split at h
  · rename_i ok
    rw [if_pos ok]
    have h2 : (PyData.eqv (.list (l.map fun _ => .int 1)) (.list []) != false) = l.isEmpty := by
      injection h with h
      injection h with h
      injection h with h
      injection h
    rw [← h2]
    simp
  · cases h
def badK (acc : List Row) (k : List Int) : Bool := acc.any fun r => !decide (r.1 < k)
abbrev keyV (a : Nat) (k : List Int) : W := .dat (.tuple [tI k, .int ((a + 1 + k.length : Nat) : Int)])
theorem ix0_keyV (bs : List Nat) (a : Nat) (k : List Int) (S : Store) : ixF bs (keyV a k) (.int 0) S = some (.dat (tI k), S) := rfl
theorem ix1_keyV (bs : List Nat) (a : Nat) (k : List Int) (S : Store) : ixF bs (keyV a k) (.int 1) S = some (.int ((a + 1 + k.length : Nat) : Int), S) := rfl
theorem isN_k (neg : Bool) (bs : List Nat) (a : Nat) (k : List Int) (S : Store) : isNF neg bs (keyV a k) .non S = some (.bl (false != neg), S) := rfl
theorem ix0_row (bs : List Nat) (r : Row) (S : Store) : ixF bs (.dat (rowD r)) (.int 0) S = some (.dat (tI r.1), S) := rfl
abbrev cmpC : M W := mComp false (mIt (mVar 1)) [5] (tName 5) (mB (mBin (ordF .ge) (mBin ixF (mVar 5) (mCon (.int 0))) (mBin ixF (mVar 3) (mCon (.int 0))))) (mCon (.int 1))
abbrev wB2 : MS := (sSeq (sAsg (mCall F__law_stretch (mCons (mVar 0) (mCons (mVar 2) (mCons (mCon (.int 3)) mNil)))) (tName 3)) (sSeq (sAsg (mIf (mB (mBin (isNF true) (mVar 3) (mCon .none))) (mCall F__law_stretch (mCons (mVar 0) (mCons (mBin ixF (mVar 3) (mCon (.int 1))) (mCons (mCon (.int 8)) mNil)))) (mCon .none)) (tName 4)) (sSeq (sIf (mOr (mB (mBin (isNF false) (mVar 4) (mCon .none))) (mB (mBin (eqF true) cmpC (mLst false mNil)))) (sRet (mCon .none)) sNil) (sSeq (sDrop (mMt .lst appF (mVar 1) (mCons (mTup (mCons (mBin ixF (mVar 3) (mCon (.int 0))) (mCons (mBin ixF (mVar 4) (mCon (.int 0))) mNil))) mNil))) (sAsg (mBin ixF (mVar 4) (mCon (.int 1))) (tName 2))))))
def cmpP (k : List Int) : W → Bool
  | .dat (.tuple (.tuple l :: _)) => !decide ((intsD l).getD [] < k)
  | _ => false
theorem cmpP_row (k : List Int) (r : Row) : cmpP k (.dat (rowD r)) = !decide (r.1 < k) := by
  show (!decide ((intsD (r.1.map .int)).getD [] < k)) = _
  rw [intsD_map]
  rfl
theorem ev_cmp {bs : List Nat} {S : Store} {c : W} {a b : Nat} {k : List Int} {acc : List Row} {x y z : Option W} (hl : acc.length ≤ 5000) :
    mB (mBin (eqF true) cmpC (mLst false mNil)) bs [some c, some (.loc S.length), x, some (keyV a k), y, z] (S ++ [.lst (rowsW acc)]) = .ok (badK acc k) (S ++ [.lst (rowsW acc)]) := by
  have hm : mIt (mVar 1) bs [some c, some (.loc S.length), x, some (keyV a k), y, z] (S ++ [.lst (rowsW acc)]) = .ok (.cell S.length) (S ++ [.lst (rowsW acc)]) := by
    simp only [sRet, sRetN, sNil, sSeq, sIf, sAsg, sDrop, sPar, tName, mAndV, mNotV, mVar, mVarK, mChain, mCon, mOr, mAnd, mIf, mNot, mTru, mB, mBin, mCB, un, mCons, mNil, mTup, mCall, mMt, mSl, mPart, mNoPart, ordF, Ord.int, isN_n, add_int, bn1, bn2, bn3, bn4, le1, le2, truW, List.getElem?_cons_zero, List.getElem?_cons_succ, W.weak_dat, W.weak_loc, Out.bind_ok, so_ok, then_nx, then_rt, turn_nx, turn_rt, Option.map_some, List.set_cons_zero, List.set_cons_succ, if_true, if_false, Bool.not_true, Bool.not_false, Bool.false_eq_true, out_rt, out_nx, mIt, it_st]
  have comp := mComp_ifIt (k := false) (vs := [5]) (t := tName 5) (c := mB (mBin (ordF .ge) (mBin ixF (mVar 5) (mCon (.int 0))) (mBin ixF (mVar 3) (mCon (.int 0))))) (d := .int 1) hm (next_st S (rowsW acc)) (by simp [Iter.fuel, rowsW]; omega)
    (fun w => [some c, some (.loc S.length), x, some (keyV a k), y, some w]) (cmpP k) (fun w hw => rfl) (fun w hw => by
      obtain ⟨r, _, rfl⟩ := List.mem_map.mp hw
      rw [cmpP_row]
      simp only [mB, mBin, mVar, mCon, List.getElem?_cons_zero, List.getElem?_cons_succ, W.weak_dat, Out.bind_ok, ix0_row, ix0_keyV, ge_t]) (by simp [rowsW]; omega)
  have e : ((rowsW acc).filter (cmpP k)).isEmpty = !badK acc k := by
    clear comp hm hl
    unfold badK
    induction acc with
    | nil => rfl
    | cons r acc ih =>
      show (List.filter _ (W.dat (rowD r) :: rowsW acc)).isEmpty = _
      rw [List.filter_cons, cmpP_row, List.any_cons]
      cases h : decide (r.1 < k) with
      | true =>
        rw [if_neg (by simp)]
        simpa using ih
      | false => simp
  have q := eq_noneN true bs ((rowsW acc).filter (cmpP k)) (S ++ [.lst (rowsW acc)])
  rw [e] at q
  simp only [newL_f] at comp
  have p0 : mLst false mNil bs [some c, some (.loc S.length), x, some (keyV a k), y, z] (S ++ [.lst (rowsW acc)]) = .ok (mkLst []) (S ++ [.lst (rowsW acc)]) := rfl
  have e3 : ((!badK acc k) != true) = badK acc k := by cases badK acc k <;> rfl
  rw [e3] at q
  simp only [mB, mBin, comp, p0, Out.bind_ok, q]
end V

set_option maxHeartbeats 4000000
namespace V
open PySem L2 PyProof.Rows Rf

def readAt (cs : List Int) : Nat → List Row → Nat → Option (List Row)
  | 0, acc, _ => some acc
  | f + 1, acc, a => if cs.length ≤ a then some acc else match stretchAt cs a 3 with
    | none => none
    | some k => match stretchAt cs (a + 1 + k.length) 8 with
      | none => none
      | some v => if badK acc k = true then none else readAt cs f (acc ++ [(k, v)]) (a + 2 + k.length + v.length)
theorem rd_none1 {bs : List Nat} {S : Store} {cs : List Int} {a : Nat} {acc : List W} {x y z : Option W} (h : stretchAt cs a 3 = none) :
    wB2 bs [some (.dat (tI cs)), some (.loc S.length), some (.int a), x, y, z] (S ++ [.lst acc]) = .rt .non (S ++ [.lst acc]) := by
  have q := ev_law_stretch bs cs a 3 (S ++ [.lst acc])
  rw [h] at q
  simp only [sRet, sRetN, sNil, sSeq, sIf, sAsg, sDrop, sPar, tName, mAndV, mNotV, mVar, mVarK, mChain, mCon, mOr, mAnd, mIf, mNot, mTru, mB, mBin, mCB, un, mCons, mNil, mTup, mCall, mMt, mSl, mPart, mNoPart, ordF, Ord.int, isN_n, add_int, bn1, bn2, bn3, bn4, le1, le2, truW, List.getElem?_cons_zero, List.getElem?_cons_succ, W.weak_dat, W.weak_loc, Out.bind_ok, so_ok, then_nx, then_rt, turn_nx, turn_rt, Option.map_some, List.set_cons_zero, List.set_cons_succ, if_true, if_false, Bool.not_true, Bool.not_false, Bool.false_eq_true, out_rt, out_nx, wB2, q, lawW]
theorem rd_none2 {bs : List Nat} {S : Store} {cs : List Int} {a : Nat} {acc : List W} {x y z : Option W} {k : List Int} (h : stretchAt cs a 3 = some k) (h2 : stretchAt cs (a + 1 + k.length) 8 = none) :
    wB2 bs [some (.dat (tI cs)), some (.loc S.length), some (.int a), x, y, z] (S ++ [.lst acc]) = .rt .non (S ++ [.lst acc]) := by
  have q := ev_law_stretch bs cs a 3 (S ++ [.lst acc])
  have q2 := ev_law_stretch bs cs (a + 1 + k.length) 8 (S ++ [.lst acc])
  rw [h] at q
  rw [h2] at q2
  simp only [lawW] at q q2
  have i1 := ix1_keyV bs a k (S ++ [.lst acc])
  have n1 := isN_k true bs a k (S ++ [.lst acc])
  simp only [sRet, sRetN, sNil, sSeq, sIf, sAsg, sDrop, sPar, tName, mAndV, mNotV, mVar, mVarK, mChain, mCon, mOr, mAnd, mIf, mNot, mTru, mB, mBin, mCB, un, mCons, mNil, mTup, mCall, mMt, mSl, mPart, mNoPart, ordF, Ord.int, isN_n, add_int, bn1, bn2, bn3, bn4, le1, le2, truW, List.getElem?_cons_zero, List.getElem?_cons_succ, W.weak_dat, W.weak_loc, Out.bind_ok, so_ok, then_nx, then_rt, turn_nx, turn_rt, Option.map_some, List.set_cons_zero, List.set_cons_succ, if_true, if_false, Bool.not_true, Bool.not_false, Bool.false_eq_true, out_rt, out_nx, wB2, q, n1, i1, q2]
theorem rd_bad {bs : List Nat} {S : Store} {cs : List Int} {a : Nat} {acc : List Row} {x y z : Option W} {k v : List Int} (h : stretchAt cs a 3 = some k) (h2 : stretchAt cs (a + 1 + k.length) 8 = some v) (hl : acc.length ≤ 5000) (hb : badK acc k = true) :
    wB2 bs [some (.dat (tI cs)), some (.loc S.length), some (.int a), x, y, z] (S ++ [.lst (rowsW acc)]) = .rt .non (S ++ [.lst (rowsW acc)]) := by
  have q := ev_law_stretch bs cs a 3 (S ++ [.lst (rowsW acc)])
  have q2 := ev_law_stretch bs cs (a + 1 + k.length) 8 (S ++ [.lst (rowsW acc)])
  rw [h] at q
  rw [h2] at q2
  simp only [lawW] at q q2
  have i1 := ix1_keyV bs a k (S ++ [.lst (rowsW acc)])
  have n1 := isN_k true bs a k (S ++ [.lst (rowsW acc)])
  have n2 := isN_k false bs (a + 1 + k.length) v (S ++ [.lst (rowsW acc)])
  have cm := ev_cmp (bs := bs) (S := S) (c := .dat (tI cs)) (a := a) (b := 0) (k := k) (acc := acc) (x := some (.int a)) (y := some (keyV (a + 1 + k.length) v)) (z := z) hl
  rw [hb] at cm
  unfold wB2 sSeq
  have s1 : sAsg (mCall F__law_stretch (mCons (mVar 0) (mCons (mVar 2) (mCons (mCon (.int 3)) mNil)))) (tName 3) bs [some (.dat (tI cs)), some (.loc S.length), some (.int a), x, y, z] (S ++ [.lst (rowsW acc)]) = .nx [some (.dat (tI cs)), some (.loc S.length), some (.int a), some (keyV a k), y, z] (S ++ [.lst (rowsW acc)]) := by
    simp only [sRet, sRetN, sNil, sSeq, sIf, sAsg, sDrop, sPar, tName, mAndV, mNotV, mVar, mVarK, mChain, mCon, mOr, mAnd, mIf, mNot, mTru, mB, mBin, mCB, un, mCons, mNil, mTup, mCall, mMt, mSl, mPart, mNoPart, ordF, Ord.int, isN_n, add_int, bn1, bn2, bn3, bn4, le1, le2, truW, List.getElem?_cons_zero, List.getElem?_cons_succ, W.weak_dat, W.weak_loc, Out.bind_ok, so_ok, then_nx, then_rt, turn_nx, turn_rt, Option.map_some, List.set_cons_zero, List.set_cons_succ, if_true, if_false, Bool.not_true, Bool.not_false, Bool.false_eq_true, out_rt, out_nx, q]
  have s2 : sAsg (mIf (mB (mBin (isNF true) (mVar 3) (mCon .none))) (mCall F__law_stretch (mCons (mVar 0) (mCons (mBin ixF (mVar 3) (mCon (.int 1))) (mCons (mCon (.int 8)) mNil)))) (mCon .none)) (tName 4) bs [some (.dat (tI cs)), some (.loc S.length), some (.int a), some (keyV a k), y, z] (S ++ [.lst (rowsW acc)]) = .nx [some (.dat (tI cs)), some (.loc S.length), some (.int a), some (keyV a k), some (keyV (a + 1 + k.length) v), z] (S ++ [.lst (rowsW acc)]) := by
    simp only [sRet, sRetN, sNil, sSeq, sIf, sAsg, sDrop, sPar, tName, mAndV, mNotV, mVar, mVarK, mChain, mCon, mOr, mAnd, mIf, mNot, mTru, mB, mBin, mCB, un, mCons, mNil, mTup, mCall, mMt, mSl, mPart, mNoPart, ordF, Ord.int, isN_n, add_int, bn1, bn2, bn3, bn4, le1, le2, truW, List.getElem?_cons_zero, List.getElem?_cons_succ, W.weak_dat, W.weak_loc, Out.bind_ok, so_ok, then_nx, then_rt, turn_nx, turn_rt, Option.map_some, List.set_cons_zero, List.set_cons_succ, if_true, if_false, Bool.not_true, Bool.not_false, Bool.false_eq_true, out_rt, out_nx, n1, i1, q2]
  have s3 : sIf (mOr (mB (mBin (isNF false) (mVar 4) (mCon .none))) (mB (mBin (eqF true) cmpC (mLst false mNil)))) (sRet (mCon .none)) sNil bs [some (.dat (tI cs)), some (.loc S.length), some (.int a), some (keyV a k), some (keyV (a + 1 + k.length) v), z] (S ++ [.lst (rowsW acc)]) = .rt .non (S ++ [.lst (rowsW acc)]) := by
    have f1 : mB (mBin (isNF false) (mVar 4) (mCon .none)) bs [some (.dat (tI cs)), some (.loc S.length), some (.int a), some (keyV a k), some (keyV (a + 1 + k.length) v), z] (S ++ [.lst (rowsW acc)]) = .ok false (S ++ [.lst (rowsW acc)]) := by
      simp only [sRet, sRetN, sNil, sSeq, sIf, sAsg, sDrop, sPar, tName, mAndV, mNotV, mVar, mVarK, mChain, mCon, mOr, mAnd, mIf, mNot, mTru, mB, mBin, mCB, un, mCons, mNil, mTup, mCall, mMt, mSl, mPart, mNoPart, ordF, Ord.int, isN_n, add_int, bn1, bn2, bn3, bn4, le1, le2, truW, List.getElem?_cons_zero, List.getElem?_cons_succ, W.weak_dat, W.weak_loc, Out.bind_ok, so_ok, then_nx, then_rt, turn_nx, turn_rt, Option.map_some, List.set_cons_zero, List.set_cons_succ, if_true, if_false, Bool.not_true, Bool.not_false, Bool.false_eq_true, out_rt, out_nx, n2]
    unfold sIf mOr mIf
    rw [f1, Out.bind_ok, if_neg (by simp), cm, so_ok, if_pos rfl]
    rfl
  rw [s1, then_nx]
  try simp only
  rw [s2, then_nx]
  try simp only
  rw [s3, then_rt]
theorem rd_some {bs : List Nat} {S : Store} {cs : List Int} {a : Nat} {acc : List Row} {x y z : Option W} {k v : List Int} (h : stretchAt cs a 3 = some k) (h2 : stretchAt cs (a + 1 + k.length) 8 = some v) (hl : acc.length ≤ 5000) (hb : badK acc k = false) :
    wB2 bs [some (.dat (tI cs)), some (.loc S.length), some (.int a), x, y, z] (S ++ [.lst (rowsW acc)]) = .nx [some (.dat (tI cs)), some (.loc S.length), some (.int ((a + 2 + k.length + v.length : Nat) : Int)), some (keyV a k), some (keyV (a + 1 + k.length) v), z] (S ++ [.lst (rowsW (acc ++ [(k, v)]))]) := by
  have q := ev_law_stretch bs cs a 3 (S ++ [.lst (rowsW acc)])
  have q2 := ev_law_stretch bs cs (a + 1 + k.length) 8 (S ++ [.lst (rowsW acc)])
  rw [h] at q
  rw [h2] at q2
  simp only [lawW] at q q2
  have i1 := ix1_keyV bs a k (S ++ [.lst (rowsW acc)])
  have n1 := isN_k true bs a k (S ++ [.lst (rowsW acc)])
  have n2 := isN_k false bs (a + 1 + k.length) v (S ++ [.lst (rowsW acc)])
  have cm := ev_cmp (bs := bs) (S := S) (c := .dat (tI cs)) (a := a) (b := 0) (k := k) (acc := acc) (x := some (.int a)) (y := some (keyV (a + 1 + k.length) v)) (z := z) hl
  rw [hb] at cm
  unfold wB2 sSeq
  have s1 : sAsg (mCall F__law_stretch (mCons (mVar 0) (mCons (mVar 2) (mCons (mCon (.int 3)) mNil)))) (tName 3) bs [some (.dat (tI cs)), some (.loc S.length), some (.int a), x, y, z] (S ++ [.lst (rowsW acc)]) = .nx [some (.dat (tI cs)), some (.loc S.length), some (.int a), some (keyV a k), y, z] (S ++ [.lst (rowsW acc)]) := by
    simp only [sRet, sRetN, sNil, sSeq, sIf, sAsg, sDrop, sPar, tName, mAndV, mNotV, mVar, mVarK, mChain, mCon, mOr, mAnd, mIf, mNot, mTru, mB, mBin, mCB, un, mCons, mNil, mTup, mCall, mMt, mSl, mPart, mNoPart, ordF, Ord.int, isN_n, add_int, bn1, bn2, bn3, bn4, le1, le2, truW, List.getElem?_cons_zero, List.getElem?_cons_succ, W.weak_dat, W.weak_loc, Out.bind_ok, so_ok, then_nx, then_rt, turn_nx, turn_rt, Option.map_some, List.set_cons_zero, List.set_cons_succ, if_true, if_false, Bool.not_true, Bool.not_false, Bool.false_eq_true, out_rt, out_nx, q]
  have s2 : sAsg (mIf (mB (mBin (isNF true) (mVar 3) (mCon .none))) (mCall F__law_stretch (mCons (mVar 0) (mCons (mBin ixF (mVar 3) (mCon (.int 1))) (mCons (mCon (.int 8)) mNil)))) (mCon .none)) (tName 4) bs [some (.dat (tI cs)), some (.loc S.length), some (.int a), some (keyV a k), y, z] (S ++ [.lst (rowsW acc)]) = .nx [some (.dat (tI cs)), some (.loc S.length), some (.int a), some (keyV a k), some (keyV (a + 1 + k.length) v), z] (S ++ [.lst (rowsW acc)]) := by
    simp only [sRet, sRetN, sNil, sSeq, sIf, sAsg, sDrop, sPar, tName, mAndV, mNotV, mVar, mVarK, mChain, mCon, mOr, mAnd, mIf, mNot, mTru, mB, mBin, mCB, un, mCons, mNil, mTup, mCall, mMt, mSl, mPart, mNoPart, ordF, Ord.int, isN_n, add_int, bn1, bn2, bn3, bn4, le1, le2, truW, List.getElem?_cons_zero, List.getElem?_cons_succ, W.weak_dat, W.weak_loc, Out.bind_ok, so_ok, then_nx, then_rt, turn_nx, turn_rt, Option.map_some, List.set_cons_zero, List.set_cons_succ, if_true, if_false, Bool.not_true, Bool.not_false, Bool.false_eq_true, out_rt, out_nx, n1, i1, q2]
  have s3 : sIf (mOr (mB (mBin (isNF false) (mVar 4) (mCon .none))) (mB (mBin (eqF true) cmpC (mLst false mNil)))) (sRet (mCon .none)) sNil bs [some (.dat (tI cs)), some (.loc S.length), some (.int a), some (keyV a k), some (keyV (a + 1 + k.length) v), z] (S ++ [.lst (rowsW acc)]) = .nx [some (.dat (tI cs)), some (.loc S.length), some (.int a), some (keyV a k), some (keyV (a + 1 + k.length) v), z] (S ++ [.lst (rowsW acc)]) := by
    have f1 : mB (mBin (isNF false) (mVar 4) (mCon .none)) bs [some (.dat (tI cs)), some (.loc S.length), some (.int a), some (keyV a k), some (keyV (a + 1 + k.length) v), z] (S ++ [.lst (rowsW acc)]) = .ok false (S ++ [.lst (rowsW acc)]) := by
      simp only [sRet, sRetN, sNil, sSeq, sIf, sAsg, sDrop, sPar, tName, mAndV, mNotV, mVar, mVarK, mChain, mCon, mOr, mAnd, mIf, mNot, mTru, mB, mBin, mCB, un, mCons, mNil, mTup, mCall, mMt, mSl, mPart, mNoPart, ordF, Ord.int, isN_n, add_int, bn1, bn2, bn3, bn4, le1, le2, truW, List.getElem?_cons_zero, List.getElem?_cons_succ, W.weak_dat, W.weak_loc, Out.bind_ok, so_ok, then_nx, then_rt, turn_nx, turn_rt, Option.map_some, List.set_cons_zero, List.set_cons_succ, if_true, if_false, Bool.not_true, Bool.not_false, Bool.false_eq_true, out_rt, out_nx, n2]
    unfold sIf mOr mIf
    rw [f1, Out.bind_ok, if_neg (by simp), cm, so_ok, if_neg (by simp)]
    rfl
  have q3 := app_st (bs := bs) (S := S) (us := rowsW acc) (d := .tuple [tI k, tI v]) (by simp [rowsW]; omega)
  have i0 := ix0_keyV bs a k (S ++ [.lst (rowsW acc)])
  have j0 := ix0_keyV bs (a + 1 + k.length) v (S ++ [.lst (rowsW acc)])
  have eacc : rowsW acc ++ [.dat (.tuple [tI k, tI v])] = rowsW (acc ++ [(k, v)]) := by simp [rowsW, rowD]
  rw [eacc] at q3
  have j1 := ix1_keyV bs (a + 1 + k.length) v (S ++ [.lst (rowsW (acc ++ [(k, v)]))])
  have e2 : a + 1 + k.length + 1 + v.length = a + 2 + k.length + v.length := by omega
  rw [e2] at j1
  rw [s1, then_nx]
  try simp only
  rw [s2, then_nx]
  try simp only
  rw [s3, then_nx]
  simp only [sRet, sRetN, sNil, sSeq, sIf, sAsg, sDrop, sPar, tName, mAndV, mNotV, mVar, mVarK, mChain, mCon, mOr, mAnd, mIf, mNot, mTru, mB, mBin, mCB, un, mCons, mNil, mTup, mCall, mMt, mSl, mPart, mNoPart, ordF, Ord.int, isN_n, add_int, bn1, bn2, bn3, bn4, le1, le2, truW, List.getElem?_cons_zero, List.getElem?_cons_succ, W.weak_dat, W.weak_loc, Out.bind_ok, so_ok, then_nx, then_rt, turn_nx, turn_rt, Option.map_some, List.set_cons_zero, List.set_cons_succ, if_true, if_false, Bool.not_true, Bool.not_false, Bool.false_eq_true, out_rt, out_nx, ty_st, i0, j0, tup2, q3, j1]
theorem while_read (bs : List Nat) (S : Store) (cs : List Int) : ∀ (f F a : Nat) (acc : List Row) (x y z : Option W), cs.length < a + f → f < F → acc.length + cs.length ≤ 5000 + a → match readAt cs f acc a with
    | none => ∃ acc', whileG wC wB2 F bs [some (.dat (tI cs)), some (.loc S.length), some (.int a), x, y, z] (S ++ [.lst (rowsW acc)]) = .rt .non (S ++ [.lst acc'])
    | some rs => ∃ a' x' y', whileG wC wB2 F bs [some (.dat (tI cs)), some (.loc S.length), some (.int a), x, y, z] (S ++ [.lst (rowsW acc)]) = .nx [some (.dat (tI cs)), some (.loc S.length), some (.int a'), x', y', z] (S ++ [.lst (rowsW rs)])
  | _, 0, a, acc, x, y, z, h1, h2, h3 => by omega
  | 0, F + 1, a, acc, x, y, z, h1, h2, h3 => by
    refine ⟨a, x, y, ?_⟩
    rw [while_no (by rw [cond_w, decide_eq_false (by omega)])]
  | f + 1, F + 1, a, acc, x, y, z, h1, h2, h3 => by
    by_cases hl : cs.length ≤ a
    · have e : readAt cs (f + 1) acc a = some acc := by rw [readAt, if_pos hl]
      rw [e]
      refine ⟨a, x, y, ?_⟩
      rw [while_no (by rw [cond_w, decide_eq_false (by omega)])]
    · have un' := while_yes (b := wB2) (F := F) (show wC bs [some (.dat (tI cs)), some (.loc S.length), some (.int a), x, y, z] (S ++ [.lst (rowsW acc)]) = .ok true (S ++ [.lst (rowsW acc)]) by rw [cond_w, decide_eq_true (by omega)])
      have e : readAt cs (f + 1) acc a = match stretchAt cs a 3 with
        | none => none
        | some k => match stretchAt cs (a + 1 + k.length) 8 with
          | none => none
          | some v => if badK acc k = true then none else readAt cs f (acc ++ [(k, v)]) (a + 2 + k.length + v.length) := by rw [readAt, if_neg hl]
      rw [e, un']
      cases hk : stretchAt cs a 3 with
      | none => exact ⟨rowsW acc, by rw [rd_none1 hk]; rfl⟩
      | some k =>
        cases hv : stretchAt cs (a + 1 + k.length) 8 with
        | none =>
          simp only [hv]
          exact ⟨rowsW acc, by rw [rd_none2 hk hv]; rfl⟩
        | some v =>
          simp only [hv]
          obtain ⟨k1, k2, k3, _⟩ := stretch_len hk
          obtain ⟨v1, v2, v3, _⟩ := stretch_len hv
          cases hb : badK acc k with
          | true =>
            rw [if_pos rfl]
            exact ⟨rowsW acc, by rw [rd_bad hk hv (by omega) hb]; rfl⟩
          | false =>
            rw [if_neg (by simp), rd_some hk hv (by omega) hb, turn_nx]
            exact while_read bs S cs f F (a + 2 + k.length + v.length) (acc ++ [(k, v)]) _ _ z (by omega) (by omega) (by simp; omega)
/-! ### both readings are one -/
theorem asc_pw : ∀ ks : List (List Int), asc ks = true ↔ ks.Pairwise (· < ·)
  | [] => by simp [asc]
  | [a] => by simp [asc]
  | a :: b :: l => by
    have ih := asc_pw (b :: l)
    simp only [asc, Bool.and_eq_true, decide_eq_true_eq, ih]
    rw [List.pairwise_cons (a := a)]
    constructor
    · intro ⟨h1, h2⟩
      refine ⟨fun x hx => ?_, h2⟩
      rcases List.mem_cons.mp hx with rfl | hx
      · exact h1
      · exact List.lt_trans h1 ((List.pairwise_cons.mp h2).1 x hx)
    · intro ⟨h1, h2⟩
      exact ⟨h1 b (List.mem_cons_self ..), h2⟩
theorem read_parse (cs : List Int) : ∀ (f a : Nat) (acc : List Row), asc (acc.map (·.1)) = true → readAt cs f acc a = match parseAt cs f a with
    | none => none
    | some rs => if asc ((acc ++ rs).map (·.1)) = true then some (acc ++ rs) else none
  | 0, a, acc, h => by simp [readAt, parseAt, h]
  | f + 1, a, acc, h => by
    rw [readAt, parseAt]
    by_cases hl : cs.length ≤ a
    · rw [if_pos hl, if_pos hl]; simp [h]
    · rw [if_neg hl, if_neg hl]
      cases stretchAt cs a 3 with
      | none => rfl
      | some k =>
        simp only
        cases stretchAt cs (a + 1 + k.length) 8 with
        | none => rfl
        | some v =>
          simp only
          cases hb : badK acc k with
          | true =>
            rw [if_pos rfl]
            cases parseAt cs f (a + 2 + k.length + v.length) with
            | none => rfl
            | some rs =>
              have : ¬ asc ((acc ++ (k, v) :: rs).map (·.1)) = true := by
                intro z
                rw [asc_pw, List.map_append, List.pairwise_append] at z
                unfold badK at hb
                rw [List.any_eq_true] at hb
                obtain ⟨r, hr, hn⟩ := hb
                have := z.2.2 r.1 (List.mem_map.mpr ⟨r, hr, rfl⟩) k (by simp)
                simp [this] at hn
              simp only [Option.map_some]
              rw [if_neg this]
          | false =>
            rw [if_neg (by simp)]
            have h' : asc ((acc ++ [(k, v)]).map (·.1)) = true := by
              rw [asc_pw, List.map_append, List.pairwise_append]
              refine ⟨(asc_pw _).mp h, by simp, fun x hx y hy => ?_⟩
              obtain ⟨r, hr, rfl⟩ := List.mem_map.mp hx
              have ey : y = k := by simpa using hy
              subst ey
              unfold badK at hb
              rw [List.any_eq_false] at hb
              have := hb r hr
              simpa using this
            rw [read_parse cs f _ _ h']
            cases parseAt cs f (a + 2 + k.length + v.length) with
            | none => rfl
            | some rs => simp
theorem ev_law_read (bs : List Nat) (cs : List Int) (S : Store) (hl : cs.length ≤ 2000) : F__law_read bs [.dat (tI cs)] S = .ok (toldW (told cs)) S := by
  unfold F__law_read
  rw [fnM_eq (by rfl), startE1]
  have head : m__law_read (S.length :: bs) [some (.dat (tI cs)), none, none, none, none, none] S = (whileG wC wB2 1000000 (S.length :: bs) [some (.dat (tI cs)), some (.loc S.length), some (.int (0 : Nat)), none, none, none] (S ++ [.lst (rowsW [])])).andThen fun e S1 => sRet (mCB (tupleF) (mCons (mVar 1) mNil)) (S.length :: bs) e S1 := rfl
  rw [head]
  have w := while_read (S.length :: bs) S cs (cs.length + 1) 1000000 0 [] none none none (by omega) (by omega) (by simp; omega)
  have rp := read_parse cs (cs.length + 1) 0 [] rfl
  have et : readAt cs (cs.length + 1) [] 0 = told cs := by
    rw [rp]
    unfold told
    cases parseAt cs (cs.length + 1) 0 <;> rfl
  rw [et] at w
  cases hp : told cs with
  | none =>
    rw [hp] at w
    obtain ⟨acc', q⟩ := w
    rw [q, then_rt, out_rt]
    exact popR_st
  | some rs =>
    rw [hp] at w
    obtain ⟨a', x', y', q⟩ := w
    rw [q, then_nx]
    have c7 : ∀ e1 e2 e3 e4, mCB (tupleF) (mCons (mVar 1) mNil) (S.length :: bs) [some (.dat (tI cs)), some (.loc S.length), e1, e2, e3, e4] (S ++ [.lst (rowsW rs)]) = .ok (.dat (.tuple (rs.map rowD))) (S ++ [.lst (rowsW rs)]) := fun e1 e2 e3 e4 => by
      simp only [sRet, sRetN, sNil, sSeq, sIf, sAsg, sDrop, sPar, tName, mAndV, mNotV, mVar, mVarK, mChain, mCon, mOr, mAnd, mIf, mNot, mTru, mB, mBin, mCB, un, mCons, mNil, mTup, mCall, mMt, mSl, mPart, mNoPart, ordF, Ord.int, isN_n, add_int, bn1, bn2, bn3, bn4, le1, le2, truW, List.getElem?_cons_zero, List.getElem?_cons_succ, W.weak_dat, W.weak_loc, Out.bind_ok, so_ok, then_nx, then_rt, turn_nx, turn_rt, Option.map_some, List.set_cons_zero, List.set_cons_succ, if_true, if_false, Bool.not_true, Bool.not_false, Bool.false_eq_true, out_rt, out_nx, tup_st]
    unfold sRet
    rw [c7, so_ok, out_rt]
    exact popR_st
end V

set_option maxHeartbeats 4000000
namespace V
open PySem L2 PyProof.Rows Rf

def CellsOk (cs : List Int) : Prop := ∀ c ∈ cs, 0 ≤ c ∧ c ≤ 999999999999999999
structure RowOk (r : Row) : Prop where
  k1 : 1 ≤ r.1.length
  k2 : r.1.length ≤ 3
  v1 : 1 ≤ r.2.length
  v2 : r.2.length ≤ 8
  kc : CellsOk r.1
  vc : CellsOk r.2
def encR (r : Row) : List Int := (r.1.length : Int) :: (r.1 ++ (r.2.length : Int) :: r.2)
def enc (rs : List Row) : List Int := rs.flatMap encR
theorem encR_len {r : Row} (h : RowOk r) : (encR r).length ≤ 13 := by
  have := h.k2; have := h.v2
  simp [encR]; omega
theorem enc_len : ∀ {rs : List Row}, (∀ r ∈ rs, RowOk r) → (enc rs).length ≤ 13 * rs.length
  | [], _ => by simp [enc]
  | r :: rs, h => by
    have h1 := encR_len (h r (List.mem_cons_self ..))
    have h2 := enc_len fun x hx => h x (List.mem_cons_of_mem _ hx)
    have e : enc (r :: rs) = encR r ++ enc rs := by simp [enc]
    rw [e, List.length_append, List.length_cons]; omega
theorem enc_ok {rs : List Row} (h : ∀ r ∈ rs, RowOk r) : CellsOk (enc rs) := by
  intro c hc
  obtain ⟨r, hr, hc⟩ := List.mem_flatMap.mp hc
  have ok := h r hr
  have := ok.k2; have := ok.v2
  unfold encR at hc
  rcases List.mem_cons.mp hc with rfl | hc
  · omega
  · rcases List.mem_append.mp hc with hc | hc
    · exact ok.kc c hc
    · rcases List.mem_cons.mp hc with rfl | hc
      · omega
      · exact ok.vc c hc
theorem stretch_at (pre st rest : List Int) (m : Int) (h1 : 1 ≤ st.length) (h2 : (st.length : Int) ≤ m) : stretchAt (pre ++ ((st.length : Int) :: (st ++ rest))) pre.length m = some st := by
  unfold stretchAt
  have e : (pre ++ ((st.length : Int) :: (st ++ rest)))[pre.length]? = some (st.length : Int) := by simp
  rw [e]
  simp only
  rw [if_pos ⟨by omega, h2, by simp; omega⟩]
  congr 1
  have : (pre ++ ((st.length : Int) :: (st ++ rest))).drop (pre.length + 1) = st ++ rest := by
    rw [List.drop_append]
    simp
  rw [this]
  simp
theorem parse_enc : ∀ (rs : List Row) (pre : List Int) (f : Nat), (∀ r ∈ rs, RowOk r) → (enc rs).length < f → parseAt (pre ++ enc rs) f pre.length = some rs
  | [], pre, 0, h, hf => rfl
  | [], pre, f + 1, h, hf => by
    rw [parseAt, if_pos (by simp [enc])]
  | r :: rs, pre, 0, h, hf => by omega
  | r :: rs, pre, f + 1, h, hf => by
    have ok := h r (List.mem_cons_self ..)
    have e : enc (r :: rs) = (r.1.length : Int) :: (r.1 ++ ((r.2.length : Int) :: (r.2 ++ enc rs))) := by simp [enc, encR]
    rw [parseAt, if_neg (by rw [e]; simp)]
    have s1 : stretchAt (pre ++ enc (r :: rs)) pre.length 3 = some r.1 := by
      rw [e]; exact stretch_at pre r.1 _ 3 ok.k1 (by have := ok.k2; omega)
    rw [s1]
    simp only
    have e2 : pre ++ enc (r :: rs) = (pre ++ (r.1.length : Int) :: r.1) ++ ((r.2.length : Int) :: (r.2 ++ enc rs)) := by rw [e]; simp
    have l2 : pre.length + 1 + r.1.length = (pre ++ (r.1.length : Int) :: r.1).length := by simp; omega
    have s2 : stretchAt (pre ++ enc (r :: rs)) (pre.length + 1 + r.1.length) 8 = some r.2 := by
      rw [e2, l2]; exact stretch_at _ r.2 _ 8 ok.v1 (by have := ok.v2; omega)
    rw [s2]
    simp only
    have e3 : pre ++ enc (r :: rs) = (pre ++ encR r) ++ enc rs := by simp [enc]
    have l3 : pre.length + 2 + r.1.length + r.2.length = (pre ++ encR r).length := by simp [encR]; omega
    rw [e3, l3, parse_enc rs (pre ++ encR r) f (fun x hx => h x (List.mem_cons_of_mem _ hx)) (by
      have : (enc (r :: rs)).length = (encR r).length + (enc rs).length := by simp [enc]
      have : 1 ≤ (encR r).length := by simp [encR]
      omega)]
    rfl
theorem told_enc {rs : List Row} (h : ∀ r ∈ rs, RowOk r) (ha : asc (rs.map (·.1)) = true) : told (enc rs) = some rs := by
  have p := parse_enc rs [] ((enc rs).length + 1) h (by omega)
  unfold told
  rw [List.nil_append] at p
  rw [show ([] : List Int).length = 0 from rfl] at p
  rw [p]
  simp only
  rw [if_pos ha]
/-! ### cells told -/
theorem add_t (k : Bool) (bs : List Nat) (a b : List Int) (S : Store) (h : a.length + b.length ≤ 100000) : addF k bs (.dat (tI a)) (.dat (tI b)) S = some (.dat (tI (a ++ b)), S) := by
  unfold tI addF
  simp only [List.length_map]
  rw [if_pos h, ← List.map_append]
theorem tup1 (i : Int) : mkTup [.dat (.int i)] = .dat (tI [i]) := rfl
theorem len1 (a : List Int) : True := trivial
theorem startE2 (a b : W) : startE 2 [a, b] = [some a, some b] := rfl
theorem ev_cells_of_row (bs : List Nat) (k v : List Int) (S : Store) (hk : k.length ≤ 100) (hv : v.length ≤ 100) : F_cells_of_row bs [.dat (tI k), .dat (tI v)] S = .ok (.dat (tI (encR (k, v)))) S := by
  unfold F_cells_of_row
  rw [fnM_eq (by rfl), startE2]
  have a1 := add_t false (S.length :: bs) [(k.length : Int)] k S (by simp; omega)
  have a2 := add_t false (S.length :: bs) ([(k.length : Int)] ++ k) [(v.length : Int)] S (by simp; omega)
  have a3 := add_t false (S.length :: bs) ([(k.length : Int)] ++ k ++ [(v.length : Int)]) v S (by simp; omega)
  simp only [sRet, sRetN, sNil, sSeq, sIf, sAsg, sDrop, sPar, tName, mAndV, mNotV, mVar, mVarK, mChain, mCon, mOr, mAnd, mIf, mNot, mTru, mB, mBin, mCB, un, mCons, mNil, mTup, mCall, mMt, mSl, mPart, mNoPart, ordF, Ord.int, isN_n, add_int, bn1, bn2, bn3, bn4, le1, le2, truW, List.getElem?_cons_zero, List.getElem?_cons_succ, W.weak_dat, W.weak_loc, Out.bind_ok, so_ok, then_nx, then_rt, turn_nx, turn_rt, Option.map_some, List.set_cons_zero, List.set_cons_succ, if_true, if_false, Bool.not_true, Bool.not_false, Bool.false_eq_true, out_rt, out_nx, m_cells_of_row, len_t, tup1, a1, a2, a3]
  have e : [(k.length : Int)] ++ k ++ [(v.length : Int)] ++ v = encR (k, v) := by simp [encR]
  rw [e]
  exact popR_dat
theorem isKey_ok {k : List Int} {n : Int} (h1 : 1 ≤ k.length) (h2 : (k.length : Int) ≤ n) (hc : CellsOk k) : isKeyN n (tI k) = true := by
  unfold isKeyN
  rw [cells_ok hc h2]
  cases k with
  | nil => simp at h1
  | cons a l => rfl
theorem isRow_ok {r : Row} (h : RowOk r) : isRow (rowD r) = true := by
  show (isKeyN 3 (tI r.1) && isKeyN 8 (tI r.2)) = true
  rw [isKey_ok h.k1 (by have := h.k2; omega) h.kc, isKey_ok h.v1 (by have := h.v2; omega) h.vc]
  rfl
theorem ev_row_cells (bs : List Nat) {r : Row} (h : RowOk r) (S : Store) : F_row_cells bs [.dat (tI r.1), .dat (tI r.2)] S = .ok (.dat (tI (encR r))) S := by
  unfold F_row_cells
  rw [fnM_eq (by rfl), startE2]
  have c1 : ∀ bs, F_check_key bs [.dat (tI r.1)] S = .ok .non S := fun bs => by
    unfold F_check_key
    rw [fnM_eq (by rfl)]
    have q := ev_is_key (S.length :: bs) (tI r.1) S
    rw [isKey_ok h.k1 (by have := h.k2; omega) h.kc] at q
    have run : m_check_key (S.length :: bs) [some (.dat (tI r.1))] S = .nx [some (.dat (tI r.1))] S := by
      simp only [sRet, sRetN, sNil, sSeq, sIf, sAsg, sDrop, sPar, tName, mAndV, mNotV, mVar, mVarK, mChain, mCon, mOr, mAnd, mIf, mNot, mTru, mB, mBin, mCB, un, mCons, mNil, mTup, mCall, mMt, mSl, mPart, mNoPart, ordF, Ord.int, isN_n, add_int, bn1, bn2, bn3, bn4, le1, le2, truW, List.getElem?_cons_zero, List.getElem?_cons_succ, W.weak_dat, W.weak_loc, Out.bind_ok, so_ok, then_nx, then_rt, turn_nx, turn_rt, Option.map_some, List.set_cons_zero, List.set_cons_succ, if_true, if_false, Bool.not_true, Bool.not_false, Bool.false_eq_true, out_rt, out_nx, m_check_key, q]
    show popR S.length (m_check_key (S.length :: bs) [some (.dat (tI r.1))] S).out = _
    rw [run]
    exact popR_dat
  have q := ev_is_row_value (S.length :: bs) (tI r.2) S
  rw [isKey_ok h.v1 (by have := h.v2; omega) h.vc] at q
  have q2 := ev_cells_of_row (S.length :: bs) r.1 r.2 S (by have := h.k2; omega) (by have := h.v2; omega)
  have q3 := c1 (S.length :: bs)
  simp only [sRet, sRetN, sNil, sSeq, sIf, sAsg, sDrop, sPar, tName, mAndV, mNotV, mVar, mVarK, mChain, mCon, mOr, mAnd, mIf, mNot, mTru, mB, mBin, mCB, un, mCons, mNil, mTup, mCall, mMt, mSl, mPart, mNoPart, ordF, Ord.int, isN_n, add_int, bn1, bn2, bn3, bn4, le1, le2, truW, List.getElem?_cons_zero, List.getElem?_cons_succ, W.weak_dat, W.weak_loc, Out.bind_ok, so_ok, then_nx, then_rt, turn_nx, turn_rt, Option.map_some, List.set_cons_zero, List.set_cons_succ, if_true, if_false, Bool.not_true, Bool.not_false, Bool.false_eq_true, out_rt, out_nx, m_row_cells, q3, q, q2]
  exact popR_dat
theorem key_rowD (r : Row) : rowKey (rowD r) = r.1 := by
  show (intsD (r.1.map .int)).getD [] = r.1
  rw [intsD_map]; rfl
theorem keys_rowD (rs : List Row) : (rs.map rowD).map rowKey = rs.map (·.1) := by
  rw [List.map_map]
  apply List.map_congr_left
  intro r _
  exact key_rowD r
structure RowsOk (rs : List Row) : Prop where
  many : rs.length ≤ 100
  each : ∀ r ∈ rs, RowOk r
  asc : asc (rs.map (·.1)) = true
theorem areRows_ok {rs : List Row} (h : RowsOk rs) : areRows (rs.map rowD) = true := by
  unfold areRows
  rw [keys_rowD, h.asc]
  have a : (rs.map rowD).all isRow = true := by
    rw [List.all_eq_true]
    intro d hd
    obtain ⟨r, hr, rfl⟩ := List.mem_map.mp hd
    exact isRow_ok (h.each r hr)
  rw [a]
  have := h.many
  simp; omega
end V

set_option maxHeartbeats 4000000
namespace V
open PySem L2 PyProof.Rows Rf

theorem tgt2 (i j : Nat) (bs : List Nat) (env : Rf.Env) (a b : PyData) (S : Store) : tTup 2 (tCons (tName i) (tCons (tName j) tNil)) (.dat (.tuple [a, b])) bs env S = .ok ((env.set i (some (.dat a))).set j (some (.dat b))) S := rfl
abbrev ownB : MS := sAsg (mBin (addF false) (mBin (addF false) (mBin (addF false) (mBin (addF false) (mVar 1) (mTup (mCons (mCB (un lenW) (mCons (mVar 2) mNil)) mNil))) (mVar 2)) (mTup (mCons (mCB (un lenW) (mCons (mVar 3) mNil)) mNil))) (mVar 3)) (tName 1)
theorem own_step (bs : List Nat) (w : W) (cs : List Int) (r : Row) (x y : Option W) (S : Store) (h : RowOk r) (hc : cs.length ≤ 5000) :
    tBody (tTup 2 (tCons (tName 2) (tCons (tName 3) tNil))) ownB (.dat (rowD r)) bs [some w, some (.dat (tI cs)), x, y] S = .nx [some w, some (.dat (tI (cs ++ encR r))), some (.dat (tI r.1)), some (.dat (tI r.2))] S := by
  have k2 := h.k2
  have v2 := h.v2
  have a1 := add_t false bs cs [(r.1.length : Int)] S (by simp; omega)
  have a2 := add_t false bs (cs ++ [(r.1.length : Int)]) r.1 S (by simp; omega)
  have a3 := add_t false bs (cs ++ [(r.1.length : Int)] ++ r.1) [(r.2.length : Int)] S (by simp; omega)
  have a4 := add_t false bs (cs ++ [(r.1.length : Int)] ++ r.1 ++ [(r.2.length : Int)]) r.2 S (by simp; omega)
  have e : cs ++ [(r.1.length : Int)] ++ r.1 ++ [(r.2.length : Int)] ++ r.2 = cs ++ encR r := by simp [encR]
  rw [e] at a4
  have t : tBody (tTup 2 (tCons (tName 2) (tCons (tName 3) tNil))) ownB (.dat (rowD r)) bs [some w, some (.dat (tI cs)), x, y] S = ownB bs [some w, some (.dat (tI cs)), some (.dat (tI r.1)), some (.dat (tI r.2))] S := rfl
  rw [t]
  simp only [sRet, sRetN, sNil, sSeq, sIf, sAsg, sDrop, sPar, tName, mAndV, mNotV, mVar, mVarK, mChain, mCon, mOr, mAnd, mIf, mNot, mTru, mB, mBin, mCB, un, mCons, mNil, mTup, mCall, mMt, mSl, mPart, mNoPart, ordF, Ord.int, isN_n, add_int, bn1, bn2, bn3, bn4, le1, le2, truW, List.getElem?_cons_zero, List.getElem?_cons_succ, W.weak_dat, W.weak_loc, Out.bind_ok, so_ok, then_nx, then_rt, turn_nx, turn_rt, Option.map_some, List.set_cons_zero, List.set_cons_succ, if_true, if_false, Bool.not_true, Bool.not_false, Bool.false_eq_true, out_rt, out_nx, ownB, len_t, tup1, a1, a2, a3, a4]
theorem ev_own_cells {rs : List Row} {w : W} (hw : TupW (rs.map rowD) w) (bs : List Nat) (S : Store) (h : ∀ r ∈ rs, RowOk r) (hl : rs.length ≤ 100) : F__law_own_cells bs [w] S = .ok (.dat (tI (enc rs))) S := by
  unfold F__law_own_cells
  rw [fnM_eq (by rfl)]
  have se : startE 4 [w] = [some w, none, none, none] := rfl
  have hm : mIt (mVar 0) (S.length :: bs) [some w, some (.dat (tI [])), none, none] S = .ok (.items ((rs.map rowD).map .dat)) S := by
    simp [mIt, mVar, hw.weak, hw.it]
  obtain ⟨env', S', run, hI⟩ := sFor_end (t := tTup 2 (tCons (tName 2) (tCons (tName 3) tNil))) (m := ownB) hm (fun k env T => T = S ∧ ∃ x y, env = [some w, some (.dat (tI (enc (rs.take k)))), x, y]) ⟨rfl, none, none, rfl⟩ (fun k x env T hk ⟨hT, y, z, he⟩ => by
    subst hT he
    rw [List.getElem?_map, List.getElem?_map] at hk
    cases hr : rs[k]? with
    | none => rw [hr] at hk; cases hk
    | some r =>
      rw [hr] at hk
      cases hk
      have hm := List.mem_of_getElem? hr
      have hlen := enc_len (rs := rs.take k) fun r hr => h r (List.mem_of_mem_take hr)
      have hk' : (rs.take k).length ≤ 100 := by rw [List.length_take]; omega
      have : enc (rs.take (k + 1)) = enc (rs.take k) ++ encR r := by
        rw [List.take_add_one, hr]
        simp [enc]
      exact ⟨_, _, own_step _ w (enc (rs.take k)) r y z T (h r hm) (by omega), rfl, some (.dat (tI r.1)), some (.dat (tI r.2)), by rw [this]⟩)
  obtain ⟨rfl, x, y, rfl⟩ := hI
  have full : rs.take ((rs.map rowD).map W.dat).length = rs := by simp
  have head : m__law_own_cells (S'.length :: bs) [some w, none, none, none] S' = (sFor (mIt (mVar 0)) (tTup 2 (tCons (tName 2) (tCons (tName 3) tNil))) ownB (S'.length :: bs) [some w, some (.dat (tI [])), none, none] S').andThen fun e S1 => sRet (mVar 1) (S'.length :: bs) e S1 := rfl
  rw [se, head, run, then_nx, full]
  exact popR_dat
theorem ev_check_rows {ds : List PyData} {w : W} (hw : TupW ds w) (bs : List Nat) (S : Store) (h : areRows ds = true) : F_check_rows bs [w] S = .ok .non S := by
  unfold F_check_rows
  rw [fnM_eq (by rfl)]
  have q := ev_are_rows hw (S.length :: bs) S
  rw [h] at q
  have se : startE 1 [w] = [some w] := rfl
  have hv : mVar 0 (S.length :: bs) [some w] S = .ok w S := by simp [mVar, hw.weak]
  have run : m_check_rows (S.length :: bs) [some w] S = .nx [some w] S := by
    simp only [m_check_rows, sIf, mNot, mTru, mCall, mCons, mNil, hv, Out.bind_ok, q, truW, so_ok, Bool.not_true, Bool.false_eq_true, if_false, sNil]
  rw [se, run]
  exact popR_dat
/-- the cells of all rows -/
theorem comp_rows (bs : List Nat) (w : W) (S : Store) (rs : List Row) (h : ∀ r ∈ rs, RowOk r) : ∀ (rest : List Row) (i : Nat) (acc : List Int), rest = rs.drop i → acc.length + 13 * rest.length ≤ 100000 →
    compG2 (.items ((rs.map rowD).map .dat)) (tTup 2 (tCons (tName 2) (tCons (tName 3) tNil))) mYes (mIt (mCall F_cells_of_row (mCons (mVar 2) (mCons (mVar 3) mNil)))) [1] (tName 1) mYes (mVar 1) (rest.length + 1) i (acc.map fun c => W.int c) bs [some w, none, none, none] S = .ok ((acc ++ enc rest).map fun c => W.int c) S
  | [], i, acc, hd, hl => by
    have : ((rs.map rowD).map W.dat)[i]? = none := by
      rw [List.getElem?_eq_none]
      have := congrArg List.length hd
      simp at this ⊢; omega
    unfold compG2
    rw [next_items, this]
    simp [enc]
  | r :: rest, i, acc, hd, hl => by
    have hi : rs[i]? = some r := by
      have := congrArg (·[0]?) hd
      simpa using this.symm
    have hi2 : ((rs.map rowD).map W.dat)[i]? = some (.dat (rowD r)) := by rw [List.getElem?_map, List.getElem?_map, hi]; rfl
    have ok := h r (List.mem_of_getElem? hi)
    have hd' : rest = rs.drop (i + 1) := by
      have : rs.drop i = r :: rest := hd.symm
      rw [← List.drop_drop, this]; rfl
    have el := encR_len ok
    simp only [List.length_cons] at hl
    have q := ev_cells_of_row bs r.1 r.2 S (by have := ok.k2; omega) (by have := ok.v2; omega)
    have m1 : mIt (mCall F_cells_of_row (mCons (mVar 2) (mCons (mVar 3) mNil))) bs [some w, none, some (.dat (tI r.1)), some (.dat (tI r.2))] S = .ok (.items ((encR r).map fun c => W.int c)) S := by
      have c : mCall F_cells_of_row (mCons (mVar 2) (mCons (mVar 3) mNil)) bs [some w, none, some (.dat (tI r.1)), some (.dat (tI r.2))] S = .ok (.dat (tI (encR r))) S := by
        simp only [sRet, sRetN, sNil, sSeq, sIf, sAsg, sDrop, sPar, tName, mAndV, mNotV, mVar, mVarK, mChain, mCon, mOr, mAnd, mIf, mNot, mTru, mB, mBin, mCB, un, mCons, mNil, mTup, mCall, mMt, mSl, mPart, mNoPart, ordF, Ord.int, isN_n, add_int, bn1, bn2, bn3, bn4, le1, le2, truW, List.getElem?_cons_zero, List.getElem?_cons_succ, W.weak_dat, W.weak_loc, Out.bind_ok, so_ok, then_nx, then_rt, turn_nx, turn_rt, Option.map_some, List.set_cons_zero, List.set_cons_succ, if_true, if_false, Bool.not_true, Bool.not_false, Bool.false_eq_true, out_rt, out_nx, q]
      unfold mIt
      rw [c, Out.bind_ok]
      have : iterA S (.dat (tI (encR r))) = some (.items ((encR r).map fun c => W.int c)) := by
        unfold tI
        simp [iterA, iterT, tupOf]
      simp only [this]
    have inner := compG_it (it := .items ((encR r).map fun c => W.int c)) (zs := (encR r).map fun c => W.int c) (t := tName 1) (c := mYes) (e := mVar 1) (bs := bs) (S := S) (env := [some w, none, some (.dat (tI r.1)), some (.dat (tI r.2))]) (fun i => rfl) (fun x => [some w, some x, some (.dat (tI r.1)), some (.dat (tI r.2))]) (fun x => some x)
      (fun x _ => rfl) (fun x _ => rfl) (fun x hx y hy => by
        cases hy
        obtain ⟨c, _, rfl⟩ := List.mem_map.mp hx
        rfl) ((encR r).map fun c => W.int c) ((encR r).length + 1) 0 (acc.map fun c => W.int c) rfl (by simp; omega) (by simp)
    have fm : ((encR r).map fun c => W.int c).filterMap (fun x => some x) = (encR r).map fun c => W.int c := by simp
    rw [fm, ← List.map_append] at inner
    unfold compG2
    rw [next_items, hi2]
    show Out.bindC (.ok [some w, none, some (.dat (tI r.1)), some (.dat (tI r.2))] S) _ = _
    rw [Out.bindC_ok]
    show Out.bindC (.ok true S) _ = _
    rw [Out.bindC_ok, if_pos rfl, m1, Out.bindC_ok]
    have fl : (Iter.items ((encR r).map fun c => W.int c)).fuel = (encR r).length + 1 := by simp [Iter.fuel]
    have wp : wipeE [some w, none, some (W.dat (tI r.1)), some (W.dat (tI r.2))] [1] = [some w, none, some (.dat (tI r.1)), some (.dat (tI r.2))] := rfl
    rw [fl, wp, inner, Out.bindC_ok, List.length_cons]
    rw [comp_rows bs w S rs h rest (i + 1) (acc ++ encR r) hd' (by simp; omega)]
    simp [enc]
theorem ev_rows_cells {rs : List Row} {w : W} (hw : TupW (rs.map rowD) w) (bs : List Nat) (S : Store) (h : RowsOk rs) : F_rows_cells bs [w] S = .ok (.dat (tI (enc rs))) S := by
  unfold F_rows_cells
  rw [fnM_eq (by rfl)]
  have se : startE 4 [w] = [some w, none, none, none] := rfl
  have hv : mVar 0 (S.length :: bs) [some w, none, none, none] S = .ok w S := by simp [mVar, hw.weak]
  have c1 : mCall F_check_rows (mCons (mVar 0) mNil) (S.length :: bs) [some w, none, none, none] S = .ok .non S := by
    rw [mCall_ok (mCons_ok hv mNil_ok)]
    exact ev_check_rows hw _ S (areRows_ok h)
  have hm : mIt (mVar 0) (S.length :: bs) [some w, none, none, none] S = .ok (.items ((rs.map rowD).map .dat)) S := by
    simp [mIt, mVar, hw.weak, hw.it]
  have many := h.many
  have cr := comp_rows (S.length :: bs) w S rs h.each rs 0 [] rfl (by simp; omega)
  have comp : mComp2 false (mIt (mVar 0)) [2, 3, 1] (tTup 2 (tCons (tName 2) (tCons (tName 3) tNil))) mYes (mIt (mCall F_cells_of_row (mCons (mVar 2) (mCons (mVar 3) mNil)))) [1] (tName 1) mYes (mVar 1) (S.length :: bs) [some w, none, none, none] S = .ok (.dat (.list ((enc rs).map .int))) S := by
    unfold mComp2
    rw [hm, Out.bind_ok]
    have fl : (Iter.items ((rs.map rowD).map W.dat)).fuel = rs.length + 1 := by simp [Iter.fuel]
    have wp : wipeE [some w, none, none, none] [2, 3, 1] = [some w, none, none, none] := rfl
    simp only [List.map_nil, List.nil_append] at cr
    rw [fl, wp, cr, Out.bind_ok, newL_f]
    show Out.ok (mkLst ((enc rs).map fun c => W.dat (PyData.int c))) S = _
    rw [mkLst_map]
  have tp : tupleF (S.length :: bs) [.dat (.list ((enc rs).map .int))] S = some (.dat (tI (enc rs)), S) := by
    have : mkTup (((enc rs).map PyData.int).map W.dat) = .dat (tI (enc rs)) := mkTup_dat _
    simp [tupleF, tupOf, lstOf]
    simpa using this
  have run : m_rows_cells (S.length :: bs) [some w, none, none, none] S = .rt (.dat (tI (enc rs))) S := by
    unfold m_rows_cells sSeq sDrop
    rw [c1, so_ok, then_nx]
    unfold sRet mCB
    rw [mCons_ok comp mNil_ok, Out.bind_ok, tp]
    rfl
  rw [se, run]
  exact popR_dat
end V

set_option maxHeartbeats 4000000
namespace V
open PySem L2 PyProof.Rows Rf

theorem mul_l (k : Bool) (bs : List Nat) (i j : Int) (S : Store) (h : i.natAbs < 18446744073709551616) : mulF k bs (.int i) (.int j) S = some (.int (i * j), S) := by
  have e : mulOk i j = true := by unfold mulOk; rw [decide_eq_true h]; rfl
  show (if mulOk i j then _ else _) = _
  rw [e]; rfl
theorem mul_r (k : Bool) (bs : List Nat) (i j : Int) (S : Store) (h : j.natAbs < 18446744073709551616) : mulF k bs (.int i) (.int j) S = some (.int (i * j), S) := by
  have e : mulOk i j = true := by unfold mulOk; rw [decide_eq_true h]; simp
  show (if mulOk i j then _ else _) = _
  rw [e]; rfl
theorem mod_i (bs : List Nat) (i j : Int) (S : Store) (h : 0 < j) : modF bs (.int i) (.int j) S = some (.int (i % j), S) := by
  show ((if 0 < j then some (i % j) else none) : Option Int).map _ = _
  rw [if_pos h]; rfl
theorem div_i (bs : List Nat) (i j : Int) (S : Store) (h : 0 < j) (h2 : j.natAbs.log2 < 9000) : fdivF bs (.int i) (.int j) S = some (.int (i / j), S) := by
  show ((if 0 < j ∧ j.natAbs.log2 < 9000 then some (i / j) else none) : Option Int).map _ = _
  rw [if_pos ⟨h, h2⟩]; rfl
theorem sub_i (bs : List Nat) (i j : Int) (S : Store) : subF bs (.int i) (.int j) S = some (.int (i - j), S) := rfl
theorem log_small {t : Int} (h : 0 < t) (h2 : t ≤ 1000000000000000000) : t.natAbs.log2 < 9000 := by
  have h3 : t.natAbs < 2 ^ 9000 := by
    have : t.natAbs ≤ 1000000000000000000 := by omega
    have e : (1000000000000000000 : Nat) < 2 ^ 9000 := by
      calc (1000000000000000000 : Nat) < 2 ^ 60 := by decide
        _ ≤ 2 ^ 9000 := Nat.pow_le_pow_right (by decide) (by decide)
    omega
  exact (Nat.log2_lt (by omega)).mpr h3
/-- the draws lie in the cell n -/
def Vat (S : Store) (n : Nat) : Prop := ∃ a b c : Int, S[n]? = some (.lst [.int a, .int b, .int c])
/-- the same store but for the draws -/
structure Drawn (n : Nat) (S S' : Store) : Prop where
  len : S'.length = S.length
  vat : Vat S' n
  rest : ∀ m, m ≠ n → S'[m]? = S[m]?
theorem Drawn.trans {n : Nat} {S S1 S2 : Store} (a : Drawn n S S1) (b : Drawn n S1 S2) : Drawn n S S2 := ⟨b.len.trans a.len, b.vat, fun m h => (b.rest m h).trans (a.rest m h)⟩
theorem Drawn.refl {n : Nat} {S : Store} (h : Vat S n) : Drawn n S S := ⟨rfl, h, fun _ _ => rfl⟩
theorem Vat.lt {S : Store} {n : Nat} (h : Vat S n) : n < S.length := by
  obtain ⟨a, b, c, e⟩ := h
  exact (List.getElem?_eq_some_iff.mp e).1
theorem drawn_set {S : Store} {n : Nat} (h : Vat S n) (a b c : Int) : Drawn n S (S.set n (.lst [.int a, .int b, .int c])) := ⟨by simp, ⟨a, b, c, by rw [List.getElem?_set_self h.lt]⟩, fun m hm => by rw [List.getElem?_set_ne (Ne.symm hm)]⟩
theorem ixv {S : Store} {n : Nat} {ws : List W} (e : S[n]? = some (.lst ws)) (bs : List Nat) (i : Nat) (w : W) (h : ws[i]? = some w) : ixF bs (.loc n) (.int i) S = some (w, S) := by
  unfold ixF
  simp only [seqOf, tupOf, lstOf, e, at_int h, Option.map_some]
theorem setv {S : Store} {n : Nat} {ws : List W} (e : S[n]? = some (.lst ws)) (bs : List Nat) (i : Nat) (d : PyData) (h : i < ws.length) : setF bs (.loc n) (.int i) (.dat d) S = some (S.set n (.lst (ws.set i (.dat d)))) := by
  unfold setF
  have hx : ixN ws.length (i : Int) = some i := by
    unfold ixN
    rw [if_pos (by omega), if_pos (by omega)]
    simp
  simp only [e, hx, may_dat, if_true]
theorem popR_len {w : W} {S S' : Store} (h : w.und S.length = true) (hl : S'.length = S.length) : popR S.length (.ok w S') = .ok w S' := by
  rw [popR_ok h]
  rw [List.take_of_length_le (by omega)]
theorem ev_drop {bs : List Nat} {S : Store} {n : Nat} (hv : Vat S n) {t : Int} (ht : 0 < t) (ht2 : t ≤ 1000000000000000000) : ∃ r S', F__law_drop bs [.loc n, .int t] S = .ok (.int r) S' ∧ 0 ≤ r ∧ r < t ∧ Drawn n S S' := by
  obtain ⟨a, b, c, e⟩ := id hv
  unfold F__law_drop
  rw [fnM_eq (by rfl)]
  have se : startE 5 [.loc n, .int t] = [some (.loc n), some (.int t), none, none, none] := rfl
  rw [se]
  have i0 := ixv e (S.length :: bs) 0 (.int a) rfl
  by_cases h : 0 < a
  · have s0 := setv e (S.length :: bs) 0 (.int (a / t)) (by simp)
    have run : m__law_drop (S.length :: bs) [some (.loc n), some (.int t), none, none, none] S = .rt (.int (a % t)) (S.set n (.lst [.int (a / t), .int b, .int c])) := by
      have i0' : ixF (S.length :: bs) (.loc n) (.dat (.int 0)) S = some (.int a, S) := i0
      have s0' : setF (S.length :: bs) (.loc n) (.dat (.int 0)) (.dat (.int (a / t))) S = some (S.set n (.lst [.int (a / t), .int b, .int c])) := s0
      simp only [sRet, sRetN, sNil, sSeq, sIf, sAsg, sDrop, sPar, tName, mAndV, mNotV, mVar, mVarK, mChain, mCon, mOr, mAnd, mIf, mNot, mTru, mB, mBin, mCB, un, mCons, mNil, mTup, mCall, mMt, mSl, mPart, mNoPart, ordF, Ord.int, isN_n, add_int, bn1, bn2, bn3, bn4, le1, le2, truW, List.getElem?_cons_zero, List.getElem?_cons_succ, W.weak_dat, W.weak_loc, Out.bind_ok, so_ok, then_nx, then_rt, turn_nx, turn_rt, Option.map_some, List.set_cons_zero, List.set_cons_succ, if_true, if_false, Bool.not_true, Bool.not_false, Bool.false_eq_true, out_rt, out_nx, m__law_drop, i0', decide_eq_true h, intW, mod_i _ _ _ _ ht, div_i _ _ _ _ ht (log_small ht ht2), Rf.tSub, s0']
    rw [run]
    refine ⟨a % t, _, popR_len rfl (by simp), Int.emod_nonneg _ (by omega), Int.emod_lt_of_pos _ ht, drawn_set hv _ _ _⟩
  · have i0' : ixF (S.length :: bs) (.loc n) (.dat (.int 0)) S = some (.int a, S) := i0
    have i2 : ixF (S.length :: bs) (.loc n) (.dat (.int 2)) S = some (.int c, S) := ixv e (S.length :: bs) 2 (.int c) rfl
    have s2 : setF (S.length :: bs) (.loc n) (.dat (.int 2)) (.dat (.int (c + 1))) S = some (S.set n (.lst [.int a, .int b, .int (c + 1)])) := setv e (S.length :: bs) 2 (.int (c + 1)) (by simp)
    have e1 : (S.set n (.lst [.int a, .int b, .int (c + 1)]))[n]? = some (.lst [.int a, .int b, .int (c + 1)]) := List.getElem?_set_self hv.lt
    have j1 : ixF (S.length :: bs) (.loc n) (.dat (.int 1)) (S.set n (.lst [.int a, .int b, .int (c + 1)])) = some (.int b, S.set n (.lst [.int a, .int b, .int (c + 1)])) := ixv e1 (S.length :: bs) 1 (.int b) rfl
    have j2 : ixF (S.length :: bs) (.loc n) (.dat (.int 2)) (S.set n (.lst [.int a, .int b, .int (c + 1)])) = some (.int (c + 1), S.set n (.lst [.int a, .int b, .int (c + 1)])) := ixv e1 (S.length :: bs) 2 (.int (c + 1)) rfl
    have m1 : ∀ (x : Int) (T : Store), mulF false (S.length :: bs) (.int 49979687) (.int x) T = some (.int (49979687 * x), T) := fun x T => mul_l _ _ _ _ _ (by decide)
    have m2 : ∀ (x : Int) (T : Store), mulF false (S.length :: bs) (.int 101) (.int x) T = some (.int (101 * x), T) := fun x T => mul_l _ _ _ _ _ (by decide)
    have m3 : ∀ (x : Int) (T : Store), mulF false (S.length :: bs) (.int x) (.int 27644437) T = some (.int (x * 27644437), T) := fun x T => mul_r _ _ _ _ _ (by decide)
    have m4 : ∀ (x : Int) (T : Store), mulF false (S.length :: bs) (.int (x % 2305843009213693951)) (.int (x % 2305843009213693951)) T = some (.int (x % 2305843009213693951 * (x % 2305843009213693951)), T) := fun x T => mul_l _ _ _ _ _ (by omega)
    have d1 : ∀ (x : Int) (T : Store), modF (S.length :: bs) (.int x) (.int 2305843009213693951) T = some (.int (x % 2305843009213693951), T) := fun x T => mod_i _ _ _ _ (by decide)
    have d2 : ∀ (x : Int) (T : Store), modF (S.length :: bs) (.int x) (.int 2305843009213693921) T = some (.int (x % 2305843009213693921), T) := fun x T => mod_i _ _ _ _ (by decide)
    have d3 : ∀ (x : Int) (T : Store), fdivF (S.length :: bs) (.int x) (.int 65537) T = some (.int (x / 65537), T) := fun x T => div_i _ _ _ _ (by decide) (log_small (by decide) (by decide))
    have d4 : ∀ (x : Int) (T : Store), modF (S.length :: bs) (.int x) (.int t) T = some (.int (x % t), T) := fun x T => mod_i _ _ _ _ ht
    have run : ∃ x, m__law_drop (S.length :: bs) [some (.loc n), some (.int t), none, none, none] S = .rt (.int (x % t)) (S.set n (.lst [.int a, .int b, .int (c + 1)])) := by
      refine ⟨(((b + 49979687 * (c + 1)) % 2305843009213693951 * ((b + 49979687 * (c + 1)) % 2305843009213693951) + 101 * (c + 1)) % 2305843009213693921 * 27644437 + (b + 49979687 * (c + 1)) % 2305843009213693951) / 65537, ?_⟩
      simp only [sRet, sRetN, sNil, sSeq, sIf, sAsg, sDrop, sPar, tName, mAndV, mNotV, mVar, mVarK, mChain, mCon, mOr, mAnd, mIf, mNot, mTru, mB, mBin, mCB, un, mCons, mNil, mTup, mCall, mMt, mSl, mPart, mNoPart, ordF, Ord.int, isN_n, add_int, bn1, bn2, bn3, bn4, le1, le2, truW, List.getElem?_cons_zero, List.getElem?_cons_succ, W.weak_dat, W.weak_loc, Out.bind_ok, so_ok, then_nx, then_rt, turn_nx, turn_rt, Option.map_some, List.set_cons_zero, List.set_cons_succ, if_true, if_false, Bool.not_true, Bool.not_false, Bool.false_eq_true, out_rt, out_nx, m__law_drop, i0', decide_eq_false h, intW, i2, Rf.tSub, s2, j1, j2, m1, m2, m3, m4, d1, d2, d3, d4]
    obtain ⟨x, run⟩ := run
    rw [run]
    exact ⟨x % t, _, popR_len rfl (by simp), Int.emod_nonneg _ (by omega), Int.emod_lt_of_pos _ ht, drawn_set hv _ _ _⟩
end V

set_option maxHeartbeats 4000000
namespace V
open PySem L2 PyProof.Rows Rf

theorem len_l (ds : List PyData) (S : Store) : lenW S (.dat (.list ds)) = some (.int ds.length) := by simp [lenW, seqOf, tupOf, lstOf]
theorem ix_l {ds : List PyData} {i : Nat} {d : PyData} (h : ds[i]? = some d) (bs : List Nat) (S : Store) : ixF bs (.dat (.list ds)) (.int i) S = some (.dat d, S) := by
  unfold ixF
  have : atI (ds.map W.dat) (i : Int) = some (.dat d) := at_int (by rw [List.getElem?_map, h]; rfl)
  simp only [seqOf, tupOf, lstOf, this, Option.map_some]
theorem ev_taste {bs : List Nat} {S : Store} {n : Nat} (hv : Vat S n) (ds : List PyData) (h1 : 1 ≤ ds.length) (h2 : ds.length ≤ 100) : ∃ d S', d ∈ ds ∧ F__law_taste bs [.loc n, .dat (.list ds)] S = .ok (.dat d) S' ∧ Drawn n S S' := by
  obtain ⟨r, S', q, r0, r1, dr⟩ := ev_drop (bs := S.length :: bs) hv (t := ds.length) (by omega) (by omega)
  obtain ⟨d, hd⟩ : ∃ d, ds[r.toNat]? = some d := ⟨_, List.getElem?_eq_getElem (by omega)⟩
  refine ⟨d, S', List.mem_of_getElem? hd, ?_, dr⟩
  unfold F__law_taste
  rw [fnM_eq (by rfl)]
  have se : startE 2 [.loc n, .dat (.list ds)] = [some (.loc n), some (.dat (.list ds))] := rfl
  have i := ix_l hd (S.length :: bs) S'
  have er : ((r.toNat : Nat) : Int) = r := by omega
  rw [er] at i
  have run : m__law_taste (S.length :: bs) [some (.loc n), some (.dat (.list ds))] S = .rt (.dat d) S' := by
    simp only [sRet, sRetN, sNil, sSeq, sIf, sAsg, sDrop, sPar, tName, mAndV, mNotV, mVar, mVarK, mChain, mCon, mOr, mAnd, mIf, mNot, mTru, mB, mBin, mCB, un, mCons, mNil, mTup, mCall, mMt, mSl, mPart, mNoPart, ordF, Ord.int, isN_n, add_int, bn1, bn2, bn3, bn4, le1, le2, truW, List.getElem?_cons_zero, List.getElem?_cons_succ, W.weak_dat, W.weak_loc, Out.bind_ok, so_ok, then_nx, then_rt, turn_nx, turn_rt, Option.map_some, List.set_cons_zero, List.set_cons_succ, if_true, if_false, Bool.not_true, Bool.not_false, Bool.false_eq_true, out_rt, out_nx, m__law_taste, len_l, q, i]
  rw [se, run]
  exact popR_len rfl dr.len
theorem comp_draw {bs : List Nat} {n : Nat} {ws : List W} {a b c e : Option W} {t : Int} (ht : 0 < t) (ht2 : t ≤ 1000000000000000000) : ∀ (rest : List W) (i : Nat) (acc : List Int) (S : Store), Vat S n → rest = ws.drop i → acc.length + rest.length ≤ 100000 →
    ∃ cs S', compG (.items ws) (tName 5) mYes (mCall F__law_drop (mCons (mVar 0) (mCons (mVar 4) mNil))) (rest.length + 1) i (acc.map fun x => W.int x) bs [some (.loc n), a, b, c, some (.int t), e] S = .ok ((acc ++ cs).map fun x => W.int x) S' ∧ cs.length = rest.length ∧ (∀ x ∈ cs, 0 ≤ x ∧ x < t) ∧ Drawn n S S'
  | [], i, acc, S, hv, hd, hl => by
    have : ws[i]? = none := by
      rw [List.getElem?_eq_none]
      have := congrArg List.length hd
      simp at this; omega
    refine ⟨[], S, ?_, rfl, fun x hx => (nomatch hx), Drawn.refl hv⟩
    unfold compG
    rw [next_items, this]
    simp
  | w :: rest, i, acc, S, hv, hd, hl => by
    have hi : ws[i]? = some w := by
      have := congrArg (·[0]?) hd
      simpa using this.symm
    have hd' : rest = ws.drop (i + 1) := by
      have : ws.drop i = w :: rest := hd.symm
      rw [← List.drop_drop, this]; rfl
    simp only [List.length_cons] at hl
    obtain ⟨r, S1, q, r0, r1, dr⟩ := ev_drop (bs := bs) hv ht ht2
    obtain ⟨cs, S2, q2, l2, c2, dr2⟩ := comp_draw (bs := bs) (a := a) (b := b) (c := c) (e := e) ht ht2 rest (i + 1) (acc ++ [r]) S1 dr.vat hd' (by simp; omega)
    refine ⟨r :: cs, S2, ?_, by simp [l2], fun x hx => ?_, dr.trans dr2⟩
    · unfold compG
      rw [next_items, hi]
      show Out.bindC (.ok [some (.loc n), a, b, c, some (.int t), some w] S) _ = _
      rw [Out.bindC_ok]
      show Out.bindC (.ok true S) _ = _
      rw [Out.bindC_ok, if_pos rfl]
      have cl : mCall F__law_drop (mCons (mVar 0) (mCons (mVar 4) mNil)) bs [some (.loc n), a, b, c, some (.int t), some w] S = .ok (.int r) S1 := by
        simp only [sRet, sRetN, sNil, sSeq, sIf, sAsg, sDrop, sPar, tName, mAndV, mNotV, mVar, mVarK, mChain, mCon, mOr, mAnd, mIf, mNot, mTru, mB, mBin, mCB, un, mCons, mNil, mTup, mCall, mMt, mSl, mPart, mNoPart, ordF, Ord.int, isN_n, add_int, bn1, bn2, bn3, bn4, le1, le2, truW, List.getElem?_cons_zero, List.getElem?_cons_succ, W.weak_dat, W.weak_loc, Out.bind_ok, so_ok, then_nx, then_rt, turn_nx, turn_rt, Option.map_some, List.set_cons_zero, List.set_cons_succ, if_true, if_false, Bool.not_true, Bool.not_false, Bool.false_eq_true, out_rt, out_nx, q]
      rw [cl, Out.bindC_ok, if_pos (by simp; omega)]
      have e1 : (acc.map fun x => W.int x) ++ [W.int r] = (acc ++ [r]).map fun x => W.int x := by simp
      rw [e1, List.length_cons, q2]
      simp
    · rcases List.mem_cons.mp hx with rfl | hx
      · exact ⟨r0, r1⟩
      · exact c2 x hx
theorem pow9 (bs : List Nat) (S : Store) : powF bs (.int 10) (.int 9) S = some (.int 1000000000, S) := rfl
theorem ev_cells {bs : List Nat} {S : Store} {n : Nat} (hv : Vat S n) (l m : Nat) (hlm : l ≤ m) (hm : m ≤ 100) : ∃ cs S', F__law_cells bs [.loc n, .int l, .int m] S = .ok (.dat (tI cs)) S' ∧ l ≤ cs.length ∧ cs.length ≤ m ∧ CellsOk cs ∧ Drawn n S S' := by
  obtain ⟨r, S1, q1, r0, r1, d1⟩ := ev_drop (bs := S.length :: bs) hv (t := (m : Int) - l + 1) (by omega) (by omega)
  obtain ⟨d, S2, hd, q2, d2⟩ := ev_taste (bs := S.length :: bs) d1.vat [.int 3, .int 3, .int 10, .int 1000000000, .int 1000000000000000000] (by simp) (by simp)
  obtain ⟨t, rfl, ht, ht2⟩ : ∃ t : Int, d = .int t ∧ 0 < t ∧ t ≤ 1000000000000000000 := by
    simp only [List.mem_cons, List.not_mem_nil, or_false] at hd
    rcases hd with rfl | rfl | rfl | rfl | rfl <;> exact ⟨_, rfl, by decide, by decide⟩
  have hv2 := (d1.trans d2).vat
  have em : (l : Int) + r = ((l + r.toNat : Nat) : Int) := by omega
  have rw1 : rangeW 0 ((l + r.toNat : Nat) : Int) = (List.range (l + r.toNat)).map fun (i : Nat) => W.int (0 + (i : Int)) := by
    unfold rangeW
    rw [show (((l + r.toNat : Nat) : Int) - 0).toNat = l + r.toNat by omega]
  obtain ⟨cs, S3, q3, l3, c3, d3⟩ := comp_draw (bs := S.length :: bs) (n := n) (ws := rangeW 0 ((l + r.toNat : Nat) : Int)) (a := some (.int l)) (b := some (.int m)) (c := some (.int ((l + r.toNat : Nat) : Int))) (e := none) ht ht2 _ 0 [] S2 hv2 rfl (by rw [rw1]; simp; omega)
  have lr : (rangeW 0 ((l + r.toNat : Nat) : Int)).length = l + r.toNat := by rw [rw1]; simp
  simp only [List.map_nil, List.nil_append, List.drop_zero] at q3 l3
  refine ⟨cs, S3, ?_, by omega, by omega, fun x hx => ?_, (d1.trans d2).trans d3⟩
  · unfold F__law_cells
    rw [fnM_eq (by rfl)]
    have se : startE 6 [.loc n, .int l, .int m] = [some (.loc n), some (.int l), some (.int m), none, none, none] := rfl
    have hmi : mRng1 (mCons (mVar 3) mNil) (S.length :: bs) [some (.loc n), some (.int l), some (.int m), some (.int ((l + r.toNat : Nat) : Int)), some (.int t), none] S2 = .ok (.items (rangeW 0 ((l + r.toNat : Nat) : Int))) S2 := rng1 rfl (by omega) (by omega)
    have comp : mComp false (mRng1 (mCons (mVar 3) mNil)) [5] (tName 5) mYes (mCall F__law_drop (mCons (mVar 0) (mCons (mVar 4) mNil))) (S.length :: bs) [some (.loc n), some (.int l), some (.int m), some (.int ((l + r.toNat : Nat) : Int)), some (.int t), none] S2 = .ok (.dat (.list (cs.map .int))) S3 := by
      unfold mComp
      rw [hmi, Out.bind_ok]
      have fl : (Iter.items (rangeW 0 ((l + r.toNat : Nat) : Int))).fuel = (rangeW 0 ((l + r.toNat : Nat) : Int)).length + 1 := rfl
      have wp : wipeE [some (W.loc n), some (W.int l), some (W.int m), some (W.int ((l + r.toNat : Nat) : Int)), some (W.int t), none] [5] = [some (.loc n), some (.int l), some (.int m), some (.int ((l + r.toNat : Nat) : Int)), some (.int t), none] := rfl
      rw [fl, wp, q3, Out.bind_ok, newL_f]
      show Out.ok (mkLst (cs.map fun c => W.dat (PyData.int c))) S3 = _
      rw [mkLst_map]
    have tp : tupleF (S.length :: bs) [.dat (.list (cs.map .int))] S3 = some (.dat (tI cs), S3) := by
      have : mkTup ((cs.map PyData.int).map W.dat) = .dat (tI cs) := mkTup_dat _
      simp [tupleF, tupOf, lstOf]
      simpa using this
    have e5 : mLst false (mCons (mCon (.int 3)) (mCons (mCon (.int 3)) (mCons (mCon (.int 10)) (mCons (mBin powF (mCon (.int 10)) (mCon (.int 9))) (mCons (mBin powF (mCon (.int 10)) (mCon (.int 18))) mNil))))) (S.length :: bs) [some (.loc n), some (.int l), some (.int m), some (.int ((l + r.toNat : Nat) : Int)), none, none] S1 = .ok (.dat (.list [.int 3, .int 3, .int 10, .int 1000000000, .int 1000000000000000000])) S1 := rfl
    have run : m__law_cells (S.length :: bs) [some (.loc n), some (.int l), some (.int m), none, none, none] S = .rt (.dat (tI cs)) S3 := by
      unfold m__law_cells sSeq
      have s1 : sAsg (mBin (addF false) (mVar 1) (mCall F__law_drop (mCons (mVar 0) (mCons (mBin (addF false) (mBin subF (mVar 2) (mVar 1)) (mCon (.int 1))) mNil)))) (tName 3) (S.length :: bs) [some (.loc n), some (.int l), some (.int m), none, none, none] S = .nx [some (.loc n), some (.int l), some (.int m), some (.int ((l + r.toNat : Nat) : Int)), none, none] S1 := by
        simp only [sRet, sRetN, sNil, sSeq, sIf, sAsg, sDrop, sPar, tName, mAndV, mNotV, mVar, mVarK, mChain, mCon, mOr, mAnd, mIf, mNot, mTru, mB, mBin, mCB, un, mCons, mNil, mTup, mCall, mMt, mSl, mPart, mNoPart, ordF, Ord.int, isN_n, add_int, bn1, bn2, bn3, bn4, le1, le2, truW, List.getElem?_cons_zero, List.getElem?_cons_succ, W.weak_dat, W.weak_loc, Out.bind_ok, so_ok, then_nx, then_rt, turn_nx, turn_rt, Option.map_some, List.set_cons_zero, List.set_cons_succ, if_true, if_false, Bool.not_true, Bool.not_false, Bool.false_eq_true, out_rt, out_nx, sub_i, q1, em]
      have s2 : sAsg (mCall F__law_taste (mCons (mVar 0) (mCons (mLst false (mCons (mCon (.int 3)) (mCons (mCon (.int 3)) (mCons (mCon (.int 10)) (mCons (mBin powF (mCon (.int 10)) (mCon (.int 9))) (mCons (mBin powF (mCon (.int 10)) (mCon (.int 18))) mNil)))))) mNil))) (tName 4) (S.length :: bs) [some (.loc n), some (.int l), some (.int m), some (.int ((l + r.toNat : Nat) : Int)), none, none] S1 = .nx [some (.loc n), some (.int l), some (.int m), some (.int ((l + r.toNat : Nat) : Int)), some (.int t), none] S2 := by
        have v0 : mVar 0 (S.length :: bs) [some (.loc n), some (.int l), some (.int m), some (.int ((l + r.toNat : Nat) : Int)), none, none] S1 = .ok (.loc n) S1 := rfl
        unfold sAsg
        rw [mCall_ok (mCons_ok v0 (mCons_ok e5 mNil_ok)), q2]
        rfl
      have s3 : sRet (mCB (tupleF) (mCons (mComp false (mRng1 (mCons (mVar 3) mNil)) [5] (tName 5) mYes (mCall F__law_drop (mCons (mVar 0) (mCons (mVar 4) mNil)))) mNil)) (S.length :: bs) [some (.loc n), some (.int l), some (.int m), some (.int ((l + r.toNat : Nat) : Int)), some (.int t), none] S2 = .rt (.dat (tI cs)) S3 := by
        unfold sRet mCB
        rw [mCons_ok comp mNil_ok, Out.bind_ok, tp]
        rfl
      rw [s1, then_nx]
      try simp only
      rw [s2, then_nx]
      try simp only
      exact s3
    rw [se, run]
    exact popR_len rfl ((d1.trans d2).trans d3).len
  · obtain ⟨x0, x1⟩ := c3 x hx
    omega
end V

set_option maxHeartbeats 4000000
namespace V
open PySem L2 PyProof.Rows Rf

/-! ### drawn rows -/
def kvW (rs : List Row) : List (PyData × W) := rs.map fun r => (tI r.1, .dat (tI r.2))
abbrev dk (k : List Int) : DKey := .tup (k.map Sum.inl)
theorem keysD_int : ∀ k : List Int, keysD (k.map .int) = some (k.map Sum.inl)
  | [] => rfl
  | i :: k => by simp [keysD, keyD, keysD_int k]
theorem dkey_t (k : List Int) : dkey (tI k) = some (dk k) := by
  show (keysD (k.map .int)).map DKey.tup = _
  rw [keysD_int]; rfl
theorem inl_inj : ∀ {a b : List Int}, a.map (Sum.inl : Int → Int ⊕ Str) = b.map Sum.inl → a = b
  | [], [], _ => rfl
  | [], _ :: _, h => by simp at h
  | _ :: _, [], h => by simp at h
  | x :: xs, y :: ys, h => by
    rw [List.map_cons, List.map_cons] at h
    injection h with h1 h2
    injection h1 with h1
    rw [h1, inl_inj h2]
theorem dk_inj {a b : List Int} (h : dk a = dk b) : a = b := inl_inj (by injection h)
theorem dk_d (k : List Int) : (dk k).d = tI k := by
  show PyData.tuple ((k.map Sum.inl).map kD) = _
  rw [List.map_map]; rfl
structure DicOk (rs : List Row) : Prop where
  each : ∀ r ∈ rs, RowOk r
  nodup : (rs.map (·.1)).Nodup
def putR (rs : List Row) (k v : List Int) : List Row := if (rs.any fun r => decide (r.1 = k)) = true then rs.map fun r => if r.1 = k then (r.1, v) else r else rs ++ [(k, v)]
theorem any_kv (rs : List Row) (k : List Int) : ((kvW rs).any fun p => decide (dkey p.1 = some (dk k))) = rs.any fun r => decide (r.1 = k) := by
  unfold kvW
  rw [List.any_map]
  congr 1
  funext r
  show decide (dkey (tI r.1) = some (dk k)) = _
  rw [dkey_t]
  apply decide_eq_decide.mpr
  constructor
  · intro h; injection h with h; exact dk_inj h
  · intro h; rw [h]
theorem put_kvW (rs : List Row) (k v : List Int) : putW (kvW rs) (dk k) (.dat (tI v)) = kvW (putR rs k v) := by
  unfold putW putR
  rw [any_kv]
  split
  · unfold kvW
    rw [List.map_map, List.map_map]
    apply List.map_congr_left
    intro r _
    show (if dkey (tI r.1) = some (dk k) then (tI r.1, W.dat (tI v)) else (tI r.1, W.dat (tI r.2))) = _
    by_cases h : r.1 = k
    · rw [if_pos (by rw [dkey_t, h])]
      simp [h]
    · rw [if_neg (by rw [dkey_t]; intro z; injection z with z; exact h (dk_inj z))]
      simp [h]
  · unfold kvW
    rw [List.map_append, dk_d]
    rfl
theorem put_ok {rs : List Row} {k v : List Int} (h : DicOk rs) (hr : RowOk (k, v)) : DicOk (putR rs k v) := by
  unfold putR
  split
  · refine ⟨fun r hr' => ?_, ?_⟩
    · obtain ⟨x, hx, rfl⟩ := List.mem_map.mp hr'
      have ok := h.each x hx
      by_cases e : x.1 = k
      · rw [if_pos e]
        exact ⟨ok.k1, ok.k2, hr.v1, hr.v2, ok.kc, hr.vc⟩
      · rw [if_neg e]; exact ok
    · have : (rs.map fun r => if r.1 = k then (r.1, v) else r).map (·.1) = rs.map (·.1) := by
        rw [List.map_map]
        apply List.map_congr_left
        intro r _
        show (if r.1 = k then (r.1, v) else r).1 = r.1
        split <;> rfl
      rw [this]
      exact h.nodup
  · rename_i ha
    refine ⟨fun r hr' => ?_, ?_⟩
    · rcases List.mem_append.mp hr' with hr' | hr'
      · exact h.each r hr'
      · have : r = (k, v) := by simpa using hr'
        subst this; exact hr
    · rw [List.map_append, List.nodup_append]
      refine ⟨h.nodup, by simp, fun a ha' b hb z => ?_⟩
      have hb' : b = k := by simpa using hb
      subst hb'
      subst z
      obtain ⟨r, hr', e⟩ := List.mem_map.mp ha'
      apply ha
      rw [List.any_eq_true]
      exact ⟨r, hr', by simpa using e⟩
theorem put_len (rs : List Row) (k v : List Int) : (putR rs k v).length ≤ rs.length + 1 := by
  unfold putR
  split <;> simp
def valR (rs : List Row) (k : List Int) : List Int := ((rs.find? fun r => decide (r.1 = k)).map (·.2)).getD []
theorem look_kvW (rs : List Row) (k : List Int) (hk : k ∈ rs.map (·.1)) : lookW (kvW rs) (dk k) = some (.dat (tI (valR rs k))) ∧ ∃ r ∈ rs, r = (k, valR rs k) := by
  unfold lookW valR kvW
  induction rs with
  | nil => simp at hk
  | cons r rs ih =>
    rw [List.map_cons]
    by_cases e : r.1 = k
    · have e1 : (fun p : PyData × W => decide (dkey p.1 = some (dk k))) (tI r.1, W.dat (tI r.2)) = true := by
        show decide (dkey (tI r.1) = some (dk k)) = true
        rw [dkey_t, e]; simp
      have e3 : (fun r : Row => decide (r.1 = k)) r = true := by simp [e]
      rw [List.find?_cons_of_pos (p := fun p : PyData × W => decide (dkey p.1 = some (dk k))) e1, List.find?_cons_of_pos (p := fun r : Row => decide (r.1 = k)) e3]
      exact ⟨rfl, r, List.mem_cons_self .., by rw [← e]; rfl⟩
    · have e1 : ¬ (fun p : PyData × W => decide (dkey p.1 = some (dk k))) (tI r.1, W.dat (tI r.2)) = true := by
        show ¬ decide (dkey (tI r.1) = some (dk k)) = true
        rw [dkey_t, decide_eq_true_eq]
        intro z; injection z with z; exact e (dk_inj z)
      have e3 : ¬ (fun r : Row => decide (r.1 = k)) r = true := by simp [e]
      have hk' : k ∈ rs.map (·.1) := by
        rw [List.map_cons] at hk
        rcases List.mem_cons.mp hk with h | h
        · exact absurd h.symm e
        · exact h
      rw [List.find?_cons_of_neg (p := fun p : PyData × W => decide (dkey p.1 = some (dk k))) e1, List.find?_cons_of_neg (p := fun r : Row => decide (r.1 = k)) e3]
      obtain ⟨i1, r', i2, i3⟩ := ih hk'
      exact ⟨i1, r', List.mem_cons_of_mem _ i2, i3⟩
theorem keyRows_kvW : ∀ rs : List Row, (∀ r ∈ rs, RowOk r) → keyRows (kvW rs) = some (rs.map (·.1))
  | [], _ => rfl
  | r :: rs, h => by
    have ok := h r (List.mem_cons_self ..)
    have k1 : keyRow (tI r.1) = some r.1 := by
      show (match intsD (r.1.map .int) with | some ns => if ns.isEmpty then none else some ns | none => none) = _
      rw [intsD_map]
      simp only
      have : r.1.isEmpty = false := by
        have := ok.k1
        cases hr : r.1 with
        | nil => rw [hr] at this; simp at this
        | cons a l => rfl
      rw [this]; rfl
    show (match keyRow (tI r.1), keyRows (kvW rs) with | some n, some ns => some (n :: ns) | _, _ => none) = _
    rw [k1, keyRows_kvW rs fun x hx => h x (List.mem_cons_of_mem _ hx)]
    rfl
theorem rowLe_eq (a b : List Int) : rowLe a b = decide (a ≤ b) := by
  unfold rowLe
  rw [PySem.W.dataLt_tuple]
  have := PySem.W.dataLt_ints b a
  unfold PySem.W.rowLt at this
  rw [this]
  by_cases h : b < a
  · have : ¬ a ≤ b := List.not_le.mpr h
    simp [h, this]
  · have : a ≤ b := List.not_lt.mp h
    simp [h, this]
theorem sort_asc (l : List (List Int)) (h : l.Nodup) : asc (l.mergeSort rowLe) = true := by
  have e : (rowLe : List Int → List Int → Bool) = fun a b => decide (a ≤ b) := by funext a b; exact rowLe_eq a b
  rw [asc_pw, e]
  have s := List.pairwise_mergeSort (le := fun a b : List Int => decide (a ≤ b)) (fun a b c h1 h2 => by
    have h1' : a ≤ b := by simpa using h1
    have h2' : b ≤ c := by simpa using h2
    simpa using List.le_trans h1' h2') (fun a b => by
    have := List.le_total a b
    simpa using this) l
  have n : (l.mergeSort fun a b => decide (a ≤ b)).Nodup := (List.mergeSort_perm l _).nodup_iff.mpr h
  have both := s.and n
  refine both.imp fun {a b} hab => ?_
  have h1 : a ≤ b := by simpa using hab.1
  rcases List.le_iff_lt_or_eq.mp h1 with h2 | h2
  · exact h2
  · exact absurd h2 hab.2
end V

set_option maxHeartbeats 4000000
namespace V
open PySem L2 PyProof.Rows Rf

theorem mCB_ok {f : OpN} {ms : M (List W)} {bs : List Nat} {env : Rf.Env} {S S1 S2 : Store} {ws : List W} {w : W} (h : ms bs env S = .ok ws S1) (h2 : f bs ws S1 = some (w, S2)) : mCB f ms bs env S = .ok w S2 := by
  unfold mCB
  rw [h, Out.bind_ok, h2]
theorem sRet_ok {m : M W} {bs : List Nat} {env : Rf.Env} {S S1 : Store} {w : W} (h : m bs env S = .ok w S1) : sRet m bs env S = .rt w S1 := by
  unfold sRet
  rw [h]
  rfl
theorem vat_app {T : Store} {n : Nat} (h : Vat T n) (x : Cell) : Vat (T ++ [x]) n := by
  obtain ⟨a, b, c, e⟩ := id h
  exact ⟨a, b, c, by rw [List.getElem?_append_left h.lt]; exact e⟩
theorem drawn_split {T U : Store} {n : Nat} {x : Cell} (h : Vat T n) (d : Drawn n (T ++ [x]) U) : ∃ T', U = T' ++ [x] ∧ Drawn n T T' := by
  have hl : U.length = T.length + 1 := by rw [d.len]; simp
  have hx : U[T.length]? = some x := by rw [d.rest _ (by have := h.lt; omega), st_get]
  have hn := h.lt
  refine ⟨U.take T.length, ?_, by rw [List.length_take]; omega, ?_, fun m hm => ?_⟩
  · have := List.take_append_drop T.length U
    have hd : U.drop T.length = [x] := by
      rw [List.drop_eq_getElem_cons (by omega)]
      have e : U[T.length]'(by omega) = x := by
        have := List.getElem?_eq_getElem (l := U) (i := T.length) (by omega)
        rw [this] at hx; injection hx
      rw [e, List.drop_eq_nil_of_le (by omega)]
    rw [hd] at this
    exact this.symm
  · obtain ⟨a, b, c, e⟩ := d.vat
    exact ⟨a, b, c, by rw [List.getElem?_take_of_lt hn]; exact e⟩
  · by_cases hm2 : m < T.length
    · rw [List.getElem?_take_of_lt hm2, d.rest m hm, List.getElem?_append_left hm2]
    · rw [List.getElem?_eq_none (by rw [List.length_take]; omega), List.getElem?_eq_none (by omega)]
theorem drawn_app {T T' : Store} {n : Nat} {x : Cell} (h : Vat T n) (d : Drawn n T T') : T'.length = T.length := d.len
theorem set_dic {bs : List Nat} {T : Store} {rs : List Row} {k v : List Int} (hl : rs.length < 100000) : setF bs (.loc T.length) (.dat (tI k)) (.dat (tI v)) (T ++ [.dic (kvW rs)]) = some (T ++ [.dic (kvW (putR rs k v))]) := by
  have all : ((kvW rs).all fun p => (dkey p.1).any fun k' => kindK k' == kindK (dk k)) = true := by
    rw [List.all_eq_true]
    intro p hp
    obtain ⟨r, _, rfl⟩ := List.mem_map.mp hp
    show ((dkey (tI r.1)).any fun k' => kindK k' == kindK (dk k)) = true
    rw [dkey_t]; rfl
  have len : (kvW rs).length < 100000 := by unfold kvW; rw [List.length_map]; exact hl
  unfold setF
  simp only [st_get, dkey_t]
  rw [if_pos ⟨may_dat _ _ _, len, all⟩, put_kvW, st_set]
abbrev rowB : MS := sAsg (mCall F__law_cells (mCons (mVar 0) (mCons (mCon (.int 1)) (mCons (mCon (.int 8)) mNil)))) (Rf.tSub (mVar 2) (mCall F__law_cells (mCons (mVar 0) (mCons (mCon (.int 1)) (mCons (mCon (.int 3)) mNil)))) setF)
theorem row_step {bs : List Nat} {n : Nat} {T : Store} {rs : List Row} {w m : W} {x y : Option W} (hv : Vat T n) (h : DicOk rs) (hl : rs.length < 1000) :
    ∃ T' rs', tBody (tName 3) rowB w bs [some (.loc n), some m, some (.loc T.length), x, y] (T ++ [.dic (kvW rs)]) = .nx [some (.loc n), some m, some (.loc T.length), some w, y] (T' ++ [.dic (kvW rs')]) ∧ Drawn n T T' ∧ DicOk rs' ∧ rs'.length ≤ rs.length + 1 := by
  obtain ⟨v, U1, q1, v1, v2, vc, d1⟩ := ev_cells (bs := bs) (vat_app hv (.dic (kvW rs))) 1 8 (by omega) (by omega)
  obtain ⟨T1, rfl, e1⟩ := drawn_split hv d1
  obtain ⟨k, U2, q2, k1, k2, kc, d2⟩ := ev_cells (bs := bs) (vat_app e1.vat (.dic (kvW rs))) 1 3 (by omega) (by omega)
  obtain ⟨T2, rfl, e2⟩ := drawn_split e1.vat d2
  have el : T2.length = T.length := (e1.trans e2).len
  have s := set_dic (bs := bs) (T := T2) (rs := rs) (k := k) (v := v) (by omega)
  rw [el] at s
  refine ⟨T2, putR rs k v, ?_, e1.trans e2, put_ok h ⟨k1, k2, v1, v2, kc, vc⟩, put_len rs k v⟩
  have q1' : F__law_cells bs [.loc n, .dat (.int 1), .dat (.int 8)] (T ++ [.dic (kvW rs)]) = .ok (.dat (tI v)) (T1 ++ [.dic (kvW rs)]) := q1
  have q2' : F__law_cells bs [.loc n, .dat (.int 1), .dat (.int 3)] (T1 ++ [.dic (kvW rs)]) = .ok (.dat (tI k)) (T2 ++ [.dic (kvW rs)]) := q2
  have t : tBody (tName 3) rowB w bs [some (.loc n), some m, some (.loc T.length), x, y] (T ++ [.dic (kvW rs)]) = rowB bs [some (.loc n), some m, some (.loc T.length), some w, y] (T ++ [.dic (kvW rs)]) := rfl
  rw [t]
  simp only [sRet, sRetN, sNil, sSeq, sIf, sAsg, sDrop, sPar, tName, mAndV, mNotV, mVar, mVarK, mChain, mCon, mOr, mAnd, mIf, mNot, mTru, mB, mBin, mCB, un, mCons, mNil, mTup, mCall, mMt, mSl, mPart, mNoPart, ordF, Ord.int, isN_n, add_int, bn1, bn2, bn3, bn4, le1, le2, truW, List.getElem?_cons_zero, List.getElem?_cons_succ, W.weak_dat, W.weak_loc, Out.bind_ok, so_ok, then_nx, then_rt, turn_nx, turn_rt, Option.map_some, List.set_cons_zero, List.set_cons_succ, if_true, if_false, Bool.not_true, Bool.not_false, Bool.false_eq_true, out_rt, out_nx, rowB, q1', Rf.tSub, q2', s]
theorem ev_law_rows {bs : List Nat} {S : Store} {n : Nat} (hv : Vat S n) : ∃ rs S', F__law_rows bs [.loc n, .dat (.int 12)] S = .ok (.kt (rs.map rowD)) S' ∧ RowsOk rs ∧ rs.length ≤ 12 ∧ (rs.map (·.1)).Nodup ∧ Drawn n S S' := by
  obtain ⟨r, U1, q1, r0, r1, d1⟩ := ev_drop (bs := S.length :: bs) (vat_app hv (.dic [])) (t := 13) (by omega) (by omega)
  obtain ⟨T1, rfl, e1⟩ := drawn_split hv d1
  have rw1 : rangeW 0 r = (List.range r.toNat).map fun (i : Nat) => W.int (0 + (i : Int)) := by
    unfold rangeW
    rw [show (r - 0).toNat = r.toNat by omega]
  have hmi : mRng1 (mCons (mCall F__law_drop (mCons (mVar 0) (mCons (mBin (addF false) (mVar 1) (mCon (.int 1))) mNil))) mNil) (S.length :: bs) [some (.loc n), some (.dat (.int 12)), some (.loc S.length), none, none] (S ++ [.dic []]) = .ok (.items (rangeW 0 r)) (T1 ++ [.dic []]) := by
    refine rng1 ?_ (by omega) (by omega)
    have e13 : (12 : Int) + 1 = 13 := rfl
    simp only [sRet, sRetN, sNil, sSeq, sIf, sAsg, sDrop, sPar, tName, mAndV, mNotV, mVar, mVarK, mChain, mCon, mOr, mAnd, mIf, mNot, mTru, mB, mBin, mCB, un, mCons, mNil, mTup, mCall, mMt, mSl, mPart, mNoPart, ordF, Ord.int, isN_n, add_int, bn1, bn2, bn3, bn4, le1, le2, truW, List.getElem?_cons_zero, List.getElem?_cons_succ, W.weak_dat, W.weak_loc, Out.bind_ok, so_ok, then_nx, then_rt, turn_nx, turn_rt, Option.map_some, List.set_cons_zero, List.set_cons_succ, if_true, if_false, Bool.not_true, Bool.not_false, Bool.false_eq_true, out_rt, out_nx, e13, q1]
  have el1 : T1.length = S.length := e1.len
  obtain ⟨env', U, run, T, rs, rfl, eT, dT, okR, lenR, x, rfl⟩ := sFor_end (t := tName 3) (m := rowB) hmi (fun k env U => ∃ T rs, U = T ++ [.dic (kvW rs)] ∧ T.length = S.length ∧ Drawn n S T ∧ DicOk rs ∧ rs.length ≤ k ∧ ∃ x, env = [some (.loc n), some (.dat (.int 12)), some (.loc S.length), x, none])
    ⟨T1, [], rfl, el1, e1, ⟨fun r hr => (nomatch hr), List.nodup_nil⟩, Nat.le_refl _, none, rfl⟩ (fun k w env U hk hI => by
      obtain ⟨T, rs, rfl, eT, dT, okR, lenR, x, rfl⟩ := hI
      have hk2 := (List.getElem?_eq_some_iff.mp hk).1
      have hk3 : k < r.toNat := by rw [rw1] at hk2; simpa using hk2
      obtain ⟨T', rs', s1, s2, s3, s4⟩ := row_step (bs := S.length :: bs) (w := w) (m := .dat (.int 12)) (x := x) (y := none) dT.vat okR (by omega)
      rw [eT] at s1
      exact ⟨_, _, s1, T', rs', rfl, by rw [s2.len, eT], dT.trans s2, s3, by omega, some w, rfl⟩)
  have lenI : (rangeW 0 r).length = r.toNat := by rw [rw1]; simp
  rw [lenI] at lenR
  -- sorted(found)
  let ks := (rs.map (·.1)).mergeSort rowLe
  have perm : ks.Perm (rs.map (·.1)) := List.mergeSort_perm _ _
  have ksl : ks.length = rs.length := by rw [perm.length_eq, List.length_map]
  have ndk : ks.Nodup := perm.nodup_iff.mpr okR.nodup
  let rs' : List Row := ks.map fun k => (k, valR rs k)
  have fst' : rs'.map (·.1) = ks := by
    show (ks.map fun k => (k, valR rs k)).map (·.1) = ks
    rw [List.map_map]
    exact List.map_id ks
  have look : ∀ k ∈ ks, lookW (kvW rs) (dk k) = some (.dat (tI (valR rs k))) ∧ RowOk (k, valR rs k) := fun k hk => by
    obtain ⟨h1, r, h2, h3⟩ := look_kvW rs k (perm.mem_iff.mp hk)
    exact ⟨h1, h3 ▸ okR.each r h2⟩
  have okS : RowsOk rs' := ⟨by show (ks.map _).length ≤ 100; rw [List.length_map, ksl]; omega, fun r hr => by
    obtain ⟨k, hk, rfl⟩ := List.mem_map.mp hr
    exact (look k hk).2, by rw [fst']; exact sort_asc _ okR.nodup⟩
  refine ⟨rs', T, ?_, okS, by show (ks.map _).length ≤ 12; rw [List.length_map, ksl]; omega, by rw [fst']; exact ndk, dT⟩
  unfold F__law_rows
  rw [fnM_eq (by rfl)]
  have se : startE 5 [.loc n, .dat (.int 12)] = [some (.loc n), some (.dat (.int 12)), none, none, none] := rfl
  have sd : sortDF false (S.length :: bs) [.loc S.length] (T ++ [.dic (kvW rs)]) = some (.dat (.list (ks.map tI)), T ++ [.dic (kvW rs)]) := by
    have g := st_get T (.dic (kvW rs))
    rw [eT] at g
    unfold sortDF sortDW
    simp only [dicOf, g, keyRows_kvW rs okR.each]
    rw [if_pos ⟨by rw [List.length_map]; omega, rfl⟩, newL_f]
    have := mkLst_map (f := fun n : List Int => PyData.tuple (n.map .int)) (l := (rs.map (·.1)).mergeSort rowLe)
    rw [this]
    rfl
  have hm : mIt (mCB (sortDF false) (mCons (mVar 2) mNil)) (S.length :: bs) [some (.loc n), some (.dat (.int 12)), some (.loc S.length), x, none] (T ++ [.dic (kvW rs)]) = .ok (.items ((ks.map tI).map .dat)) (T ++ [.dic (kvW rs)]) := by
    have c : mCB (sortDF false) (mCons (mVar 2) mNil) (S.length :: bs) [some (.loc n), some (.dat (.int 12)), some (.loc S.length), x, none] (T ++ [.dic (kvW rs)]) = .ok (.dat (.list (ks.map tI))) (T ++ [.dic (kvW rs)]) := by
      simp only [sRet, sRetN, sNil, sSeq, sIf, sAsg, sDrop, sPar, tName, mAndV, mNotV, mVar, mVarK, mChain, mCon, mOr, mAnd, mIf, mNot, mTru, mB, mBin, mCB, un, mCons, mNil, mTup, mCall, mMt, mSl, mPart, mNoPart, ordF, Ord.int, isN_n, add_int, bn1, bn2, bn3, bn4, le1, le2, truW, List.getElem?_cons_zero, List.getElem?_cons_succ, W.weak_dat, W.weak_loc, Out.bind_ok, so_ok, then_nx, then_rt, turn_nx, turn_rt, Option.map_some, List.set_cons_zero, List.set_cons_succ, if_true, if_false, Bool.not_true, Bool.not_false, Bool.false_eq_true, out_rt, out_nx, sd]
    unfold mIt
    rw [c, Out.bind_ok]
    rfl
  have comp := mComp_name (k := false) (i := 4) (vs := [4]) (e := mTup (mCons (mVar 4) (mCons (mBin ixF (mVar 2) (mVar 4)) mNil))) hm (fun w => match w with | .dat (.tuple ds) => .dat (rowD ((intsD ds).getD [], valR rs ((intsD ds).getD []))) | w => w) (fun w hw => by
    obtain ⟨d, hd, rfl⟩ := List.mem_map.mp hw
    obtain ⟨k, hk, rfl⟩ := List.mem_map.mp hd
    have g := st_get T (.dic (kvW rs))
    rw [eT] at g
    have ix : ixF (S.length :: bs) (.loc S.length) (.dat (tI k)) (T ++ [.dic (kvW rs)]) = some (.dat (tI (valR rs k)), T ++ [.dic (kvW rs)]) := by
      unfold ixF
      simp only [seqOf, tupOf, lstOf, g, dicOf, dkey_t, (look k hk).1, Option.map_some]
    have e0 : (match W.dat (tI k) with | .dat (.tuple ds) => W.dat (rowD ((intsD ds).getD [], valR rs ((intsD ds).getD []))) | w => w) = .dat (rowD (k, valR rs k)) := by
      show W.dat (rowD ((intsD (k.map .int)).getD [], valR rs ((intsD (k.map .int)).getD []))) = _
      rw [intsD_map]; rfl
    rw [e0]
    have wp : (wipeE [some (W.loc n), some (W.dat (PyData.int 12)), some (W.loc S.length), x, none] [4]).set 4 (some (.dat (tI k))) = [some (.loc n), some (.dat (.int 12)), some (.loc S.length), x, some (.dat (tI k))] := rfl
    rw [wp]
    simp only [sRet, sRetN, sNil, sSeq, sIf, sAsg, sDrop, sPar, tName, mAndV, mNotV, mVar, mVarK, mChain, mCon, mOr, mAnd, mIf, mNot, mTru, mB, mBin, mCB, un, mCons, mNil, mTup, mCall, mMt, mSl, mPart, mNoPart, ordF, Ord.int, isN_n, add_int, bn1, bn2, bn3, bn4, le1, le2, truW, List.getElem?_cons_zero, List.getElem?_cons_succ, W.weak_dat, W.weak_loc, Out.bind_ok, so_ok, then_nx, then_rt, turn_nx, turn_rt, Option.map_some, List.set_cons_zero, List.set_cons_succ, if_true, if_false, Bool.not_true, Bool.not_false, Bool.false_eq_true, out_rt, out_nx, ix, tup2]
    rfl) (by simp; omega)
  have ec : ((ks.map tI).map W.dat).map (fun w => match w with | .dat (.tuple ds) => W.dat (rowD ((intsD ds).getD [], valR rs ((intsD ds).getD []))) | w => w) = rs'.map fun r => W.dat (rowD r) := by
    show _ = (ks.map fun k => (k, valR rs k)).map fun r => W.dat (rowD r)
    rw [List.map_map, List.map_map, List.map_map]
    apply List.map_congr_left
    intro k _
    show W.dat (rowD ((intsD (k.map .int)).getD [], valR rs ((intsD (k.map .int)).getD []))) = _
    rw [intsD_map]; rfl
  rw [ec] at comp
  simp only [newL_f, mkLst_map] at comp
  have tk : tupleKF (S.length :: bs) [.dat (.list (rs'.map rowD))] (T ++ [.dic (kvW rs)]) = some (.kt (rs'.map rowD), T ++ [.dic (kvW rs)]) := by
    unfold tupleKF
    simp only [lstOf, allDat_map, Option.map_some]
  have head : m__law_rows (S.length :: bs) [some (.loc n), some (.dat (.int 12)), none, none, none] S = (sFor (mRng1 (mCons (mCall F__law_drop (mCons (mVar 0) (mCons (mBin (addF false) (mVar 1) (mCon (.int 1))) mNil))) mNil)) (tName 3) rowB (S.length :: bs) [some (.loc n), some (.dat (.int 12)), some (.loc S.length), none, none] (S ++ [.dic []])).andThen fun e S1 => sRet (mCB (tupleKF) (mCons (mComp false (mIt (mCB (sortDF false) (mCons (mVar 2) mNil))) [4] (tName 4) mYes (mTup (mCons (mVar 4) (mCons (mBin ixF (mVar 2) (mVar 4)) mNil)))) mNil)) (S.length :: bs) e S1 := rfl
  rw [se, head, run, then_nx]
  have fin : sRet (mCB (tupleKF) (mCons (mComp false (mIt (mCB (sortDF false) (mCons (mVar 2) mNil))) [4] (tName 4) mYes (mTup (mCons (mVar 4) (mCons (mBin ixF (mVar 2) (mVar 4)) mNil)))) mNil)) (S.length :: bs) [some (.loc n), some (.dat (.int 12)), some (.loc S.length), x, none] (T ++ [.dic (kvW rs)]) = .rt (.kt (rs'.map rowD)) (T ++ [.dic (kvW rs)]) := by
    exact sRet_ok (mCB_ok (mCons_ok comp mNil_ok) tk)
  rw [fin, out_rt, popR_ok rfl]
  congr 1
  rw [← eT]
  simp
end V

set_option maxHeartbeats 4000000
namespace V
open PySem L2 PyProof.Rows Rf

theorem cut_map {α β : Type} (f : α → β) (xs : List α) (lo hi : Option Int) : cutW (xs.map f) lo hi = (cutW xs lo hi).map f := by
  unfold cutW
  rw [List.length_map, ← List.map_drop, ← List.map_take]
theorem sl_take (cs : List Int) (a : Nat) (S : Store) : slF false (.dat (tI cs)) none (some (a : Int)) S = some (.dat (tI (cs.take a)), S) := by
  have e1 : HT.sIx cs.length 0 none = 0 := rfl
  have e2 : HT.sIx cs.length cs.length (some (a : Int)) = min a cs.length := HT.sIx_nat _ _ _
  unfold slF tI
  simp only [tupOf, List.length_map, e1, e2]
  by_cases h : cs.length ≤ a
  · rw [if_pos ⟨trivial, by omega⟩, List.take_of_length_le h]
  · rw [if_neg (by omega)]
    have : cutW ((cs.map PyData.int).map W.dat) none (some (a : Int)) = ((cs.take a).map PyData.int).map W.dat := by
      rw [cut_map, cut_map]
      congr 2
      unfold cutW
      rw [e1, e2, List.drop_zero, Nat.sub_zero]
      congr 1
      omega
    rw [this, mkTup_dat]
theorem sl_drop (cs : List Int) (a : Nat) (S : Store) : slF false (.dat (tI cs)) (some (a : Int)) none S = some (.dat (tI (cs.drop a)), S) := by
  have e1 : HT.sIx cs.length 0 (some (a : Int)) = min a cs.length := HT.sIx_nat _ _ _
  have e2 : HT.sIx cs.length cs.length none = cs.length := rfl
  unfold slF tI
  simp only [tupOf, List.length_map, e1, e2]
  by_cases h : min a cs.length = 0
  · rw [if_pos ⟨h, trivial⟩]
    have : cs.drop a = cs := by
      rcases Nat.min_eq_zero_iff.mp h with h | h
      · rw [h, List.drop_zero]
      · rw [List.length_eq_zero_iff.mp h]; simp
    rw [this]
  · rw [if_neg (fun z => h z.1)]
    have : cutW ((cs.map PyData.int).map W.dat) (some (a : Int)) none = ((cs.drop a).map PyData.int).map W.dat := by
      rw [cut_map, cut_map]
      congr 2
      unfold cutW
      rw [e1, e2]
      by_cases z : a ≤ cs.length
      · rw [Nat.min_eq_left z, List.take_of_length_le (by rw [List.length_drop]; exact Nat.le_refl _)]
      · rw [Nat.min_eq_right (by omega), List.drop_eq_nil_of_le (Nat.le_refl _), List.drop_eq_nil_of_le (by omega), List.take_nil]
    rw [this, mkTup_dat]
theorem back_t (k : Bool) (i : Nat) (cs : List Int) (bs : List Nat) (env : Rf.Env) (S : Store) (h : mVar i bs env S = .ok (.dat (tI cs)) S) : mBack k (mVar i) bs env S = .ok (.dat (tI cs.reverse)) S := by
  unfold mBack
  rw [h, Out.bind_ok]
  have : tupOf (.dat (tI cs)) = some ((cs.map PyData.int).map W.dat) := rfl
  rw [this]
  simp only
  rw [← List.map_reverse, ← List.map_reverse, mkTup_dat]
  rfl
/-- what stands near drawn cells -/
structure Near (cs : List Int) : Prop where
  ok : CellsOk cs
  len : cs.length ≤ 1000
theorem near_app {a b : List Int} (h : CellsOk a) (h2 : CellsOk b) : CellsOk (a ++ b) := fun c hc => by
  rcases List.mem_append.mp hc with hc | hc
  · exact h c hc
  · exact h2 c hc
theorem near_take {a : List Int} (h : CellsOk a) (n : Nat) : CellsOk (a.take n) := fun c hc => h c (List.mem_of_mem_take hc)
theorem near_drop {a : List Int} (h : CellsOk a) (n : Nat) : CellsOk (a.drop n) := fun c hc => h c (List.mem_of_mem_drop hc)
theorem near_one {i : Int} (h : 0 ≤ i) (h2 : i ≤ 999999999999999999) : CellsOk [i] := fun c hc => by
  have : c = i := by simpa using hc
  subst this; exact ⟨h, h2⟩
theorem mLst_ok {k : Bool} {ms : M (List W)} {bs : List Nat} {env : Rf.Env} {S S1 : Store} {ws : List W} (h : ms bs env S = .ok ws S1) (hl : ws.length ≤ 100000) : mLst k ms bs env S = .ok (newL k ws S1).1 (newL k ws S1).2 := by
  unfold mLst
  rw [h, Out.bind_ok, if_pos hl]
theorem mBin_ok {f : Op2} {ma mb : M W} {bs : List Nat} {env : Rf.Env} {S S1 S2 S3 : Store} {x y z : W} (h : ma bs env S = .ok x S1) (h2 : mb bs env S1 = .ok y S2) (h3 : f bs x y S2 = some (z, S3)) : mBin f ma mb bs env S = .ok z S3 := by
  unfold mBin
  rw [h, Out.bind_ok, h2, Out.bind_ok, h3]
theorem add_l (bs : List Nat) (a b : List PyData) (S : Store) (h : a.length + b.length ≤ 100000) : addF false bs (.dat (.list a)) (.dat (.list b)) S = some (.dat (.list (a ++ b)), S) := by
  unfold addF
  simp only [tupOf, lstM, List.length_map]
  rw [if_pos h, newL_f, ← List.map_append, mkLst_dat]
theorem ev_near_cells {bs : List Nat} {S : Store} {n : Nat} (hv : Vat S n) {cs : List Int} (hc : CellsOk cs) (hl : cs.length ≤ 400) :
    ∃ (ls : List (List Int)) (S' : Store), F__law_near_cells bs [.loc n, .dat (tI cs)] S = .ok (.dat (.list (ls.map tI))) S' ∧ (∀ l ∈ ls, Near l) ∧ ls.length ≤ 100 ∧ Drawn n S S' := by
  obtain ⟨r, S1, q1, r0, r1, d1⟩ := ev_drop (bs := S.length :: bs) hv (t := (cs.length : Int) + 1) (by omega) (by omega)
  obtain ⟨d, S2, hd, q2, d2⟩ := ev_taste (bs := S.length :: bs) d1.vat [.int 0, .int 1, .int 2, .int 3, .int 4, .int 8, .int 9, .int 999999999999999999] (by simp) (by simp)
  obtain ⟨t, rfl, ht, ht2⟩ : ∃ t : Int, d = .int t ∧ 0 ≤ t ∧ t ≤ 999999999999999999 := by
    simp only [List.mem_cons, List.not_mem_nil, or_false] at hd
    rcases hd with rfl | rfl | rfl | rfl | rfl | rfl | rfl | rfl <;> exact ⟨_, rfl, by decide, by decide⟩
  have dv2 := d1.trans d2
  obtain ⟨es, S3, q3, l3a, l3b, c3, d3⟩ := ev_cells (bs := S.length :: bs) dv2.vat 0 9 (by omega) (by omega)
  have hb := near_one ht ht2
  obtain ⟨a, rfl⟩ : ∃ a : Nat, r = (a : Int) := ⟨r.toNat, by omega⟩
  let l1 := [cs.take a ++ [t] ++ cs.drop (a + 1), cs.take a, cs.drop a, cs.take a ++ cs.drop (a + 1), cs ++ cs]
  let l2 := [cs.take a ++ [t] ++ cs.drop a, cs ++ [t], cs.reverse, es]
  have ha : a ≤ cs.length := by omega
  refine ⟨l1 ++ l2, S3, ?_, ?_, by simp [l1, l2], dv2.trans d3⟩
  · unfold F__law_near_cells
    rw [fnM_eq (by rfl)]
    have se : startE 5 [.loc n, .dat (tI cs)] = [some (.loc n), some (.dat (tI cs)), none, none, none] := rfl
    have ea : (a : Int) + 1 = ((a + 1 : Nat) : Int) := by omega
    have s1 : sAsg (mCall F__law_drop (mCons (mVar 0) (mCons (mBin (addF false) (mCB (un lenW) (mCons (mVar 1) mNil)) (mCon (.int 1))) mNil))) (tName 2) (S.length :: bs) [some (.loc n), some (.dat (tI cs)), none, none, none] S = .nx [some (.loc n), some (.dat (tI cs)), some (.int a), none, none] S1 := by
      simp only [sRet, sRetN, sNil, sSeq, sIf, sAsg, sDrop, sPar, tName, mAndV, mNotV, mVar, mVarK, mChain, mCon, mOr, mAnd, mIf, mNot, mTru, mB, mBin, mCB, un, mCons, mNil, mTup, mCall, mMt, mSl, mPart, mNoPart, ordF, Ord.int, isN_n, add_int, bn1, bn2, bn3, bn4, le1, le2, truW, List.getElem?_cons_zero, List.getElem?_cons_succ, W.weak_dat, W.weak_loc, Out.bind_ok, so_ok, then_nx, then_rt, turn_nx, turn_rt, Option.map_some, List.set_cons_zero, List.set_cons_succ, if_true, if_false, Bool.not_true, Bool.not_false, Bool.false_eq_true, out_rt, out_nx, len_t, q1]
    have e8 : mLst false (mCons (mCon (.int 0)) (mCons (mCon (.int 1)) (mCons (mCon (.int 2)) (mCons (mCon (.int 3)) (mCons (mCon (.int 4)) (mCons (mCon (.int 8)) (mCons (mCon (.int 9)) (mCons (mBin subF (mBin powF (mCon (.int 10)) (mCon (.int 18))) (mCon (.int 1))) mNil)))))))) (S.length :: bs) [some (.loc n), some (.dat (tI cs)), some (.int a), none, none] S1 = .ok (.dat (.list [.int 0, .int 1, .int 2, .int 3, .int 4, .int 8, .int 9, .int 999999999999999999])) S1 := rfl
    have s2 : sAsg (mCall F__law_taste (mCons (mVar 0) (mCons (mLst false (mCons (mCon (.int 0)) (mCons (mCon (.int 1)) (mCons (mCon (.int 2)) (mCons (mCon (.int 3)) (mCons (mCon (.int 4)) (mCons (mCon (.int 8)) (mCons (mCon (.int 9)) (mCons (mBin subF (mBin powF (mCon (.int 10)) (mCon (.int 18))) (mCon (.int 1))) mNil))))))))) mNil))) (tName 3) (S.length :: bs) [some (.loc n), some (.dat (tI cs)), some (.int a), none, none] S1 = .nx [some (.loc n), some (.dat (tI cs)), some (.int a), some (.int t), none] S2 := by
      have v0 : mVar 0 (S.length :: bs) [some (.loc n), some (.dat (tI cs)), some (.int a), none, none] S1 = .ok (.loc n) S1 := rfl
      unfold sAsg
      rw [mCall_ok (mCons_ok v0 (mCons_ok e8 mNil_ok)), q2]
      rfl
    have lt1 : (cs.take a).length ≤ 400 := by rw [List.length_take]; omega
    have ld1 : (cs.drop (a + 1)).length ≤ 400 := by rw [List.length_drop]; omega
    have ld0 : (cs.drop a).length ≤ 400 := by rw [List.length_drop]; omega
    have a1 := add_t false (S.length :: bs) (cs.take a) [t] S2 (by simp; omega)
    have a2 := add_t false (S.length :: bs) (cs.take a ++ [t]) (cs.drop (a + 1)) S2 (by simp; omega)
    have a3 := add_t false (S.length :: bs) (cs.take a) (cs.drop (a + 1)) S2 (by omega)
    have a4 := add_t false (S.length :: bs) cs cs S2 (by omega)
    have a5 := add_t false (S.length :: bs) (cs.take a ++ [t]) (cs.drop a) S2 (by simp; omega)
    have a6 := add_t false (S.length :: bs) cs [t] S2 (by simp; omega)
    have ds1 := sl_drop cs (a + 1) S2
    have s3 : sAsg (mLst false (mCons (mBin (addF false) (mBin (addF false) (mSl (slF false) (mVar 1) mNoPart (mPart (mVar 2))) (mTup (mCons (mVar 3) mNil))) (mSl (slF false) (mVar 1) (mPart (mBin (addF false) (mVar 2) (mCon (.int 1)))) mNoPart)) (mCons (mSl (slF false) (mVar 1) mNoPart (mPart (mVar 2))) (mCons (mSl (slF false) (mVar 1) (mPart (mVar 2)) mNoPart) (mCons (mBin (addF false) (mSl (slF false) (mVar 1) mNoPart (mPart (mVar 2))) (mSl (slF false) (mVar 1) (mPart (mBin (addF false) (mVar 2) (mCon (.int 1)))) mNoPart)) (mCons (mBin (addF false) (mVar 1) (mVar 1)) mNil)))))) (tName 4) (S.length :: bs) [some (.loc n), some (.dat (tI cs)), some (.int a), some (.int t), none] S2 = .nx [some (.loc n), some (.dat (tI cs)), some (.int a), some (.int t), some (.dat (.list (l1.map tI)))] S2 := by
      unfold sAsg
      rw [mLst_ok (ws := l1.map fun l => .dat (tI l)) (by simp only [sRet, sRetN, sNil, sSeq, sIf, sAsg, sDrop, sPar, tName, mAndV, mNotV, mVar, mVarK, mChain, mCon, mOr, mAnd, mIf, mNot, mTru, mB, mBin, mCB, un, mCons, mNil, mTup, mCall, mMt, mSl, mPart, mNoPart, ordF, Ord.int, isN_n, add_int, bn1, bn2, bn3, bn4, le1, le2, truW, List.getElem?_cons_zero, List.getElem?_cons_succ, W.weak_dat, W.weak_loc, Out.bind_ok, so_ok, then_nx, then_rt, turn_nx, turn_rt, Option.map_some, List.set_cons_zero, List.set_cons_succ, if_true, if_false, Bool.not_true, Bool.not_false, Bool.false_eq_true, out_rt, out_nx, sl_take, sl_drop, ea, ds1, tup1, a1, a2, a3, a4]; rfl) (by simp [l1])]
      rw [newL_f, mkLst_map]
      rfl
    have vm : mVar 1 (S.length :: bs) [some (.loc n), some (.dat (tI cs)), some (.int a), some (.int t), some (.dat (.list (l1.map tI)))] S2 = .ok (.dat (tI cs)) S2 := rfl
    have bk := back_t false 1 cs (S.length :: bs) [some (.loc n), some (.dat (tI cs)), some (.int a), some (.int t), some (.dat (.list (l1.map tI)))] S2 vm
    have q3' : F__law_cells (S.length :: bs) [.loc n, .dat (.int 0), .dat (.int 9)] S2 = .ok (.dat (tI es)) S3 := q3
    have s4 : mLst false (mCons (mBin (addF false) (mBin (addF false) (mSl (slF false) (mVar 1) mNoPart (mPart (mVar 2))) (mTup (mCons (mVar 3) mNil))) (mSl (slF false) (mVar 1) (mPart (mVar 2)) mNoPart)) (mCons (mBin (addF false) (mVar 1) (mTup (mCons (mVar 3) mNil))) (mCons (mBack false (mVar 1)) (mCons (mCall F__law_cells (mCons (mVar 0) (mCons (mCon (.int 0)) (mCons (mCon (.int 9)) mNil)))) mNil)))) (S.length :: bs) [some (.loc n), some (.dat (tI cs)), some (.int a), some (.int t), some (.dat (.list (l1.map tI)))] S2 = .ok (.dat (.list (l2.map tI))) S3 := by
      rw [mLst_ok (ws := l2.map fun l => .dat (tI l)) (S1 := S3) (by simp only [sRet, sRetN, sNil, sSeq, sIf, sAsg, sDrop, sPar, tName, mAndV, mNotV, mVar, mVarK, mChain, mCon, mOr, mAnd, mIf, mNot, mTru, mB, mBin, mCB, un, mCons, mNil, mTup, mCall, mMt, mSl, mPart, mNoPart, ordF, Ord.int, isN_n, add_int, bn1, bn2, bn3, bn4, le1, le2, truW, List.getElem?_cons_zero, List.getElem?_cons_succ, W.weak_dat, W.weak_loc, Out.bind_ok, so_ok, then_nx, then_rt, turn_nx, turn_rt, Option.map_some, List.set_cons_zero, List.set_cons_succ, if_true, if_false, Bool.not_true, Bool.not_false, Bool.false_eq_true, out_rt, out_nx, sl_take, sl_drop, tup1, a1, a5, a6, bk, q3']; rfl) (by simp [l2])]
      rw [newL_f, mkLst_map]
    have s5 := sRet_ok (mBin_ok (f := addF false) (ma := mVar 4) (x := .dat (.list (l1.map tI))) (S1 := S2) (bs := S.length :: bs) (env := [some (.loc n), some (.dat (tI cs)), some (.int a), some (.int t), some (.dat (.list (l1.map tI)))]) (S := S2) rfl s4 (add_l _ _ _ S3 (by simp [l1, l2])))
    have run : m__law_near_cells (S.length :: bs) [some (.loc n), some (.dat (tI cs)), none, none, none] S = .rt (.dat (.list ((l1 ++ l2).map tI))) S3 := by
      unfold m__law_near_cells sSeq
      rw [s1, then_nx]
      try simp only
      rw [s2, then_nx]
      try simp only
      rw [s3, then_nx]
      try simp only
      rw [s5, List.map_append]
    rw [se, run, out_rt]
    exact popR_len rfl (dv2.trans d3).len
  · intro l hl'
    have ht' := near_take hc a
    have hd1 := near_drop hc (a + 1)
    have hd0 := near_drop hc a
    simp only [l1, l2, List.cons_append, List.nil_append, List.mem_cons, List.not_mem_nil, or_false] at hl'
    rcases hl' with rfl | rfl | rfl | rfl | rfl | rfl | rfl | rfl | rfl
    · exact ⟨near_app (near_app ht' hb) hd1, by simp; omega⟩
    · exact ⟨ht', by simp; omega⟩
    · exact ⟨hd0, by simp; omega⟩
    · exact ⟨near_app ht' hd1, by simp; omega⟩
    · exact ⟨near_app hc hc, by simp; omega⟩
    · exact ⟨near_app (near_app ht' hb) hd0, by simp; omega⟩
    · exact ⟨near_app hc hb, by simp; omega⟩
    · exact ⟨fun c h => hc c (List.mem_reverse.mp h), by simp; omega⟩
    · exact ⟨c3, by omega⟩
end V

set_option maxHeartbeats 4000000
namespace V
open PySem L2 PyProof.Rows Rf

/-! ### values that are data, whatever data -/
def EvD (m : M W) (bs : List Nat) (env : Rf.Env) (S : Store) : Prop := ∃ d, m bs env S = .ok (.dat d) S
def EvT (b : Nat) (m : M W) (bs : List Nat) (env : Rf.Env) (S : Store) : Prop := ∃ ds, m bs env S = .ok (.dat (.tuple ds)) S ∧ ds.length ≤ b
def EvL (b : Nat) (ms : M (List W)) (bs : List Nat) (env : Rf.Env) (S : Store) : Prop := ∃ ds : List PyData, ms bs env S = .ok (ds.map .dat) S ∧ ds.length ≤ b
section
variable {bs : List Nat} {env : Rf.Env} {S : Store} {m m2 m3 : M W} {ms : M (List W)} {a b c : Nat}
theorem EvT.d (h : EvT b m bs env S) : EvD m bs env S := let ⟨ds, e, _⟩ := h; ⟨_, e⟩
theorem EvL.nil : EvL 0 mNil bs env S := ⟨[], rfl, Nat.le_refl _⟩
theorem EvL.cons (h : EvD m bs env S) (t : EvL b ms bs env S) : EvL (b + 1) (mCons m ms) bs env S := by
  obtain ⟨d, e⟩ := h
  obtain ⟨ds, e2, hl⟩ := t
  exact ⟨d :: ds, mCons_ok e e2, by simp; omega⟩
theorem EvL.tup (h : EvL b ms bs env S) (hb : b ≤ 1000) : EvT b (mTup ms) bs env S := by
  obtain ⟨ds, e, hl⟩ := h
  refine ⟨ds, ?_, hl⟩
  unfold mTup
  rw [e, Out.bind_ok, if_pos (by simp; omega), mkTup_dat]
theorem EvD.con (d : PyData) : EvD (mCon d) bs env S := ⟨d, rfl⟩
theorem EvT.add (h : EvT a m bs env S) (h2 : EvT b m2 bs env S) (hb : a + b ≤ 1000) : EvT (a + b) (mBin (addF false) m m2) bs env S := by
  obtain ⟨xs, e, hl⟩ := h
  obtain ⟨ys, e2, hl2⟩ := h2
  refine ⟨xs ++ ys, mBin_ok e e2 ?_, by simp; omega⟩
  show (if xs.length + ys.length ≤ 100000 then _ else _) = _
  rw [if_pos (by omega)]
theorem cut_len {α : Type} (xs : List α) (lo hi : Option Int) : (cutW xs lo hi).length ≤ xs.length := by
  unfold cutW
  rw [List.length_take, List.length_drop]; omega
theorem EvT.slice {ml mh : M (Option Int)} {lo hi : Option Int} (h : EvT b m bs env S) (h1 : ml bs env S = .ok lo S) (h2 : mh bs env S = .ok hi S) : EvT b (mSl (slF false) m ml mh) bs env S := by
  obtain ⟨xs, e, hl⟩ := h
  unfold EvT mSl
  rw [e, Out.bind_ok, h1, Out.bind_ok, h2, Out.bind_ok]
  unfold slF
  simp only [tupOf]
  split
  · rename_i r S4 hr
    split at hr
    · cases hr; exact ⟨xs, rfl, hl⟩
    · cases hr
      rw [cut_map, mkTup_dat]
      exact ⟨_, rfl, Nat.le_trans (cut_len _ _ _) hl⟩
  · rename_i hr
    split at hr <;> cases hr
theorem EvT.list (h : EvT b m bs env S) : EvD (mCB (listF false) (mCons m mNil)) bs env S := by
  obtain ⟨xs, e, hl⟩ := h
  refine ⟨.list xs, mCB_ok (mCons_ok e mNil_ok) ?_⟩
  simp [listF, seqOf, tupOf]
theorem EvT.eight : EvT 8 (mBin (mulF false) (mTup (mCons (mCon (.int 0)) mNil)) (mCon (.int 8))) bs env S := ⟨List.replicate 8 (.int 0), rfl, by simp⟩
theorem EvD.p18 : EvD (mBin powF (mCon (.int 10)) (mCon (.int 18))) bs env S := ⟨.int 1000000000000000000, rfl⟩
theorem EvD.neg1 : EvD (mNeg (mCon (.int 1))) bs env S := ⟨.int (-1), rfl⟩
theorem part_neg1 : mPart (mNeg (mCon (.int 1))) bs env S = .ok (some (-1)) S := rfl
theorem part_1 : mPart (mCon (.int 1)) bs env S = .ok (some 1) S := rfl
theorem part_0 : mNoPart bs env S = .ok none S := rfl
end
/-- what was drawn, with 0 and 1 as truths -/
theorem bent_row {bs : List Nat} {e0 e1 e2 e4 e5 e6 e7 : Option W} {S : Store} {m : M W} (cs : List Int) (hl : cs.length ≤ 100) (x7 : Option W) (hm3 : mIt m bs [e0, e1, e2, e4, e5, e6, e7, x7] S = .ok (.items ((cs.map .int).map .dat)) S) :
    EvT 100 (mCB (tupleF) (mCons (mComp false (mIt m) [7] (tName 7) mYes (mIf (mB (mBin (inF false) (mVar 7) (mTup (mCons (mCon (.int 0)) (mCons (mCon (.int 1)) mNil))))) (mBin (eqF false) (mVar 7) (mCon (.int 1))) (mVar 7))) mNil)) bs [e0, e1, e2, e4, e5, e6, e7, x7] S := by
  have comp := mComp_name (k := false) (i := 7) (vs := [7]) (e := mIf (mB (mBin (inF false) (mVar 7) (mTup (mCons (mCon (.int 0)) (mCons (mCon (.int 1)) mNil))))) (mBin (eqF false) (mVar 7) (mCon (.int 1))) (mVar 7)) hm3 (fun w => match w with | .dat (.int i) => if i = 0 ∨ i = 1 then .bl (decide (i = 1)) else .int i | w => w) (fun w hw => by
    obtain ⟨d, hd, rfl⟩ := List.mem_map.mp hw
    obtain ⟨i, _, rfl⟩ := List.mem_map.mp hd
    have ee := eq_int false bs i 1 S
    have wp : (wipeE [e0, e1, e2, e4, e5, e6, e7, x7] [7]).set 7 (some (W.dat (PyData.int i))) = [e0, e1, e2, e4, e5, e6, e7, some (.dat (.int i))] := rfl
    rw [wp]
    have inn : inF false bs (.dat (.int i)) (.dat (.tuple [.int 0, .int 1])) S = some (.bl (decide (i = 0 ∨ i = 1)), S) := by
      have e : (([.int 0, .int 1] : List PyData).any fun z => PyData.eqv z (.int i)) = decide (i = 0 ∨ i = 1) := by
        by_cases h0 : i = 0
        · subst h0; rfl
        · by_cases h1 : i = 1
          · subst h1; rfl
          · have : ¬ (i = 0 ∨ i = 1) := by omega
            rw [decide_eq_false this]
            show ((0 : Int) == i || ((1 : Int) == i || false)) = false
            have a1 : ((0 : Int) == i) = false := by rw [int_bd]; exact decide_eq_false fun z => h0 z.symm
            have a2 : ((1 : Int) == i) = false := by rw [int_bd]; exact decide_eq_false fun z => h1 z.symm
            rw [a1, a2]; rfl
      show (if (PyData.int i).plain = true ∧ PyData.plainAll [.int 0, .int 1] = true ∧ (PyData.int i).depth ≤ 64 then some (W.bl ((([.int 0, .int 1] : List PyData).any fun z => PyData.eqv z (.int i)) != false), S) else none) = _
      rw [if_pos ⟨rfl, rfl, by simp [PyData.depth]⟩, e]
      cases decide (i = 0 ∨ i = 1) <;> rfl
    have t2 : mTup (mCons (mCon (.int 0)) (mCons (mCon (.int 1)) mNil)) bs [e0, e1, e2, e4, e5, e6, e7, some (.dat (.int i))] S = .ok (.dat (.tuple [.int 0, .int 1])) S := rfl
    have v7 : mVar 7 bs [e0, e1, e2, e4, e5, e6, e7, some (.dat (.int i))] S = .ok (.dat (.int i)) S := rfl
    have b1 := mBin_ok v7 t2 inn
    unfold mIf mB
    rw [b1, Out.bind_ok, Out.bind_ok]
    by_cases h : i = 0 ∨ i = 1
    · rw [decide_eq_true h, if_pos rfl]
      have b2 := mBin_ok v7 (show mCon (.int 1) bs [e0, e1, e2, e4, e5, e6, e7, some (.dat (.int i))] S = .ok (.dat (.int 1)) S from rfl) ee
      rw [b2]
      simp [h]
    · rw [decide_eq_false h, if_neg (by simp), v7]
      simp [h]) (by simp; omega)
  obtain ⟨ds, hds, hdl⟩ : ∃ ds : List PyData, (((cs.map PyData.int).map W.dat).map fun w => match w with | .dat (.int i) => if i = 0 ∨ i = 1 then W.bl (decide (i = 1)) else .int i | w => w) = ds.map .dat ∧ ds.length = cs.length := by
    refine ⟨cs.map fun i => if i = 0 ∨ i = 1 then .bool (decide (i = 1)) else .int i, ?_, by simp⟩
    rw [List.map_map, List.map_map, List.map_map]
    apply List.map_congr_left
    intro i _
    show (if i = 0 ∨ i = 1 then W.bl (decide (i = 1)) else .int i) = W.dat (if i = 0 ∨ i = 1 then .bool (decide (i = 1)) else .int i)
    split <;> rfl
  rw [hds] at comp
  simp only [newL_f, mkLst_dat] at comp
  refine ⟨ds, mCB_ok (mCons_ok comp mNil_ok) ?_, by omega⟩
  have : mkTup (ds.map W.dat) = .dat (.tuple ds) := mkTup_dat _
  simp [tupleF, tupOf, lstOf]
end V

set_option maxHeartbeats 4000000
namespace V
open PySem L2 PyProof.Rows Rf

theorem good_ints : ∀ k : List Int, PyData.plainAll (k.map .int) = true ∧ PyData.depthAll (k.map .int) ≤ 1 ∧ PyData.canLayAll0 (k.map .int) = true
  | [] => ⟨by simp [PyData.plainAll], by simp [PyData.depthAll], by simp [PyData.canLayAll0]⟩
  | i :: k => by
    obtain ⟨h1, h2, h3⟩ := good_ints k
    refine ⟨by simp [PyData.plainAll, PyData.plain, h1], ?_, by simp [PyData.canLayAll0, PyData.canLay0, h3]⟩
    simp only [List.map_cons, PyData.depthAll, PyData.depth]; omega
theorem good_row (r : Row) : PyData.plain (rowD r) = true ∧ PyData.depth (rowD r) ≤ 3 ∧ PyData.canLay0 (rowD r) = true := by
  obtain ⟨a1, a2, a3⟩ := good_ints r.1
  obtain ⟨b1, b2, b3⟩ := good_ints r.2
  refine ⟨by simp [rowD, tI, PyData.plain, PyData.plainAll, a1, b1], ?_, by simp [rowD, tI, PyData.canLay0, PyData.canLayAll0, a3, b3]⟩
  simp only [rowD, tI, PyData.depth, PyData.depthAll]; omega
theorem good_rows : ∀ rs : List Row, PyData.plainAll (rs.map rowD) = true ∧ PyData.depthAll (rs.map rowD) ≤ 3 ∧ PyData.canLayAll0 (rs.map rowD) = true
  | [] => ⟨by simp [PyData.plainAll], by simp [PyData.depthAll], by simp [PyData.canLayAll0]⟩
  | r :: rs => by
    obtain ⟨h1, h2, h3⟩ := good_rows rs
    obtain ⟨g1, g2, g3⟩ := good_row r
    refine ⟨by simp [PyData.plainAll, g1, h1], ?_, by simp [PyData.canLayAll0, g3, h3]⟩
    simp only [List.map_cons, PyData.depthAll]; omega
theorem idx_row {rs : List Row} {r : Row} (hr : r ∈ rs) (bs : List Nat) (S : Store) : ∃ j : Nat, j < rs.length ∧ idxF bs (.kt (rs.map rowD)) [.dat (rowD r)] S = some (.int j, S) := by
  obtain ⟨p1, p2, p3⟩ := good_row r
  obtain ⟨q1, q2, q3⟩ := good_rows rs
  have sh : SeqAt.shaped (.tuple (rs.map rowD)) = true := by
    unfold SeqAt.shaped
    rw [Bool.and_eq_true, decide_eq_true_eq]
    exact ⟨by rw [PyData.canLay0]; exact q3, by rw [PyData.depth]; omega⟩
  have sr : SeqAt.shaped (rowD r) = true := by
    unfold SeqAt.shaped
    rw [Bool.and_eq_true, decide_eq_true_eq]
    exact ⟨p3, by omega⟩
  cases hj : (rs.map rowD).findIdx? (fun z => PyData.eqv z (rowD r)) with
  | none =>
    rw [List.findIdx?_eq_none_iff] at hj
    have := hj (rowD r) (List.mem_map.mpr ⟨r, hr, rfl⟩)
    rw [SeqAt.eqv_refl _ p3] at this
    cases this
  | some j =>
    obtain ⟨hl, _⟩ := List.findIdx?_eq_some_iff_getElem.mp hj
    refine ⟨j, by simpa using hl, ?_⟩
    show (if _ ∧ _ ∧ _ ∧ _ then _ else _) = _
    rw [if_pos ⟨p1, q1, sh, sr⟩, hj]
    rfl
theorem TupW.of_tw (ds : List PyData) : TupW ds (.tw (ds.map .dat)) := .inr rfl
/-- rows[:at], rows[at + 1:] -/
theorem TupW.take {ds : List PyData} {w : W} (h : TupW ds w) {a : Nat} (ha : a < ds.length) (S : Store) : slF false w none (some (a : Int)) S = some (.dat (.tuple (ds.take a)), S) := by
  have e1 : HT.sIx ds.length 0 none = 0 := rfl
  have e2 : HT.sIx ds.length ds.length (some (a : Int)) = min a ds.length := HT.sIx_nat _ _ _
  unfold slF
  rw [h.tup]
  simp only [List.length_map, e1, e2]
  rw [if_neg (by omega), cut_map, mkTup_dat]
  congr 4
  unfold cutW
  rw [e1, e2, List.drop_zero, Nat.sub_zero]
  congr 1
  omega
theorem TupW.drop {ds : List PyData} {w : W} (h : TupW ds w) {a : Nat} (ha : a < ds.length) (S : Store) : slF false w (some ((a : Int) + 1)) none S = some (.dat (.tuple (ds.drop (a + 1))), S) := by
  have e1 : HT.sIx ds.length 0 (some ((a : Int) + 1)) = a + 1 := by
    rw [show (a : Int) + 1 = ((a + 1 : Nat) : Int) by omega, HT.sIx_nat]; omega
  have e2 : HT.sIx ds.length ds.length none = ds.length := rfl
  unfold slF
  rw [h.tup]
  simp only [List.length_map, e1, e2]
  rw [if_neg (by omega), cut_map, mkTup_dat]
  congr 4
  unfold cutW
  rw [e1, e2]
  rw [List.take_of_length_le (by rw [List.length_drop]; exact Nat.le_refl _)]
/-- any slice of rows, rows + rows, as a tuple -/
theorem TupW.any {ds : List PyData} {w : W} (h : TupW ds w) (lo hi : Option Int) (S : Store) : ∃ es w', slF false w lo hi S = some (w', S) ∧ TupW es w' ∧ es.length ≤ ds.length ∧ ∀ e ∈ es, e ∈ ds := by
  unfold slF
  rw [h.tup]
  simp only
  split
  · exact ⟨ds, w, rfl, h, Nat.le_refl _, fun e he => he⟩
  · refine ⟨cutW ds lo hi, .dat (.tuple (cutW ds lo hi)), by rw [cut_map, mkTup_dat], .of _, cut_len _ _ _, fun e he => ?_⟩
    unfold cutW at he
    exact List.mem_of_mem_drop (List.mem_of_mem_take he)
theorem TupW.add {ds es : List PyData} {w u : W} (h : TupW ds w) (h2 : TupW es u) (hl : ds.length + es.length ≤ 100000) (bs : List Nat) (S : Store) : ∃ z, addF false bs w u S = some (z, S) ∧ TupW (ds ++ es) z := by
  have t1 := h.tup
  have t2 := h2.tup
  have gen : (match tupOf w, tupOf u with
    | some xs, some ys => if xs.length + ys.length ≤ 100000 then some (if xs.isEmpty then u else if ys.isEmpty then w else mkTup (xs ++ ys), S) else none
    | _, _ => match lstM S w, lstM S u with
      | some xs, some ys => if xs.length + ys.length ≤ 100000 then some (newL false (xs ++ ys) S) else none
      | _, _ => none) = some (if (ds.map W.dat).isEmpty then u else if (es.map W.dat).isEmpty then w else mkTup (ds.map W.dat ++ es.map W.dat), S) := by
    rw [t1, t2]
    simp only [List.length_map]
    rw [if_pos hl]
  have out : TupW (ds ++ es) (if (ds.map W.dat).isEmpty then u else if (es.map W.dat).isEmpty then w else mkTup (ds.map W.dat ++ es.map W.dat)) := by
    cases ds with
    | nil => exact h2
    | cons d ds =>
      cases es with
      | nil =>
        rw [List.append_nil]
        exact h
      | cons e es =>
        have : mkTup ((d :: ds).map W.dat ++ (e :: es).map W.dat) = .dat (.tuple (d :: ds ++ e :: es)) := by rw [← List.map_append, mkTup_dat]
        show TupW _ (mkTup ((d :: ds).map W.dat ++ (e :: es).map W.dat))
        rw [this]
        exact .of _
  rcases h with rfl | rfl <;> rcases h2 with rfl | rfl
  · exact ⟨.dat (.tuple (ds ++ es)), by
      show (if ds.length + es.length ≤ 100000 then _ else _) = _
      rw [if_pos hl], .of _⟩
  · exact ⟨_, gen, out⟩
  · exact ⟨_, gen, out⟩
  · exact ⟨_, gen, out⟩
/-- the value is judged alike by both -/
def Fine (w : W) : Prop := (∃ ds, TupW ds w ∧ ds.length ≤ 2000) ∨ ∃ d, w = .dat d ∧ ∀ ds, d ≠ .tuple ds
end V

set_option maxHeartbeats 4000000
namespace V
open PySem L2 PyProof.Rows Rf

structure Lay (S U : Store) (c : Nat) (fnd : List W) : Prop where
  at_ : U[c]? = some (.lst fnd)
  low : ∀ m, m < c → U[m]? = S[m]?
theorem Lay.lt {S U : Store} {c : Nat} {fnd : List W} (h : Lay S U c fnd) : c < U.length := (List.getElem?_eq_some_iff.mp h.at_).1
theorem Lay.push {S U : Store} {c : Nat} {fnd : List W} (h : Lay S U c fnd) (x : Cell) : Lay S (U ++ [x]) c fnd := ⟨by rw [List.getElem?_append_left h.lt]; exact h.at_, fun m hm => by rw [List.getElem?_append_left (by have := h.lt; omega)]; exact h.low m hm⟩
theorem Lay.setO {S U : Store} {c o : Nat} {fnd : List W} (h : Lay S U c fnd) (ho : c < o) (x : Cell) : Lay S (U.set o x) c fnd := ⟨by rw [List.getElem?_set_ne (by omega)]; exact h.at_, fun m hm => by rw [List.getElem?_set_ne (by omega)]; exact h.low m hm⟩
theorem Lay.setC {S U : Store} {c : Nat} {fnd : List W} (h : Lay S U c fnd) (f2 : List W) : Lay S (U.set c (.lst f2)) c f2 := ⟨by rw [List.getElem?_set_self h.lt], fun m hm => by rw [List.getElem?_set_ne (by omega)]; exact h.low m hm⟩
abbrev r0 : M W := mBin ixF (mVar 3) (mCon (.int 0))
abbrev r1 : M W := mBin ixF (mVar 3) (mCon (.int 1))
abbrev odd1 : M (List W) := (mCons (mCB (listF false) (mCons (mVar 3) mNil)) (mCons (mBin (addF false) (mVar 3) (mVar 3)) (mCons (mSl (slF false) (mVar 3) mNoPart (mPart (mCon (.int 1)))) (mCons (mTup (mCons (mCB (listF false) (mCons r0 mNil)) (mCons r1 mNil))) (mCons (mTup (mCons r0 (mCons (mCB (listF false) (mCons r1 mNil)) mNil))) (mCons (mTup (mCons (mTup mNil) (mCons r1 mNil))) (mCons (mTup (mCons r0 (mCons (mTup mNil) mNil))) mNil)))))))
abbrev odd2 : M (List W) := (mCons (mTup (mCons (mBin (addF false) r0 (mTup (mCons (mCon (.int 0)) (mCons (mCon (.int 0)) (mCons (mCon (.int 0)) mNil))))) (mCons r1 mNil))) (mCons (mTup (mCons r0 (mCons (mBin (addF false) r1 (mBin (mulF false) (mTup (mCons (mCon (.int 0)) mNil)) (mCon (.int 8)))) mNil))) (mCons (mTup (mCons (mBin (addF false) (mSl (slF false) r0 mNoPart (mPart (mNeg (mCon (.int 1))))) (mTup (mCons (mNeg (mCon (.int 1))) mNil))) (mCons r1 mNil))) (mCons (mCon .none) mNil))))
abbrev odd3 : M (List W) := (mCons (mTup (mCons r0 (mCons (mBin (addF false) (mSl (slF false) r1 mNoPart (mPart (mNeg (mCon (.int 1))))) (mTup (mCons (mBin powF (mCon (.int 10)) (mCon (.int 18))) mNil))) mNil))) (mCons (mTup (mCons r0 (mCons (mBin (addF false) (mSl (slF false) r1 mNoPart (mPart (mNeg (mCon (.int 1))))) (mTup (mCons (mCon .none) mNil))) mNil))) (mCons (mTup (mCons (mBin (addF false) (mSl (slF false) r0 mNoPart (mPart (mNeg (mCon (.int 1))))) (mTup (mCons (mCon (.str "1")) mNil))) (mCons r1 mNil))) mNil)))
abbrev bent (m : M W) : M W := mCB (tupleF) (mCons (mComp false (mIt m) [7] (tName 7) mYes (mIf (mB (mBin (inF false) (mVar 7) (mTup (mCons (mCon (.int 0)) (mCons (mCon (.int 1)) mNil))))) (mBin (eqF false) (mVar 7) (mCon (.int 1))) (mVar 7))) mNil)
abbrev odd4 : M W := mTup (mCons (bent r0) (mCons r1 mNil))
abbrev odd5 : M W := mTup (mCons r0 (mCons (bent r1) mNil))
abbrev exC : M W := mComp false (mIt (mVar 5)) [6] (tName 6) mYes (mBin (addF false) (mBin (addF false) (mSl (slF false) (mVar 1) mNoPart (mPart (mVar 4))) (mTup (mCons (mVar 6) mNil))) (mSl (slF false) (mVar 1) (mPart (mBin (addF false) (mVar 4) (mCon (.int 1)))) mNoPart))
abbrev stA : MS := sAsg (mMtK idxF (mVarK 1) (mCons (mVar 3) mNil)) (tName 4)
abbrev stB : MS := sAsg (mLst true odd1) (tName 5)
abbrev stC : MS := sAsg (mBin (addF true) (mVar 5) (mLst false odd2)) (tName 5)
abbrev stD : MS := sAsg (mBin (addF true) (mVar 5) (mLst false odd3)) (tName 5)
abbrev stE : MS := sDrop (mMt .lst appF (mVar 5) (mCons odd4 mNil))
abbrev stF : MS := sDrop (mMt .lst appF (mVar 5) (mCons odd5 mNil))
abbrev stG : MS := sDrop (mMt .lst extF (mVar 2) (mCons exC mNil))
abbrev nBody : MS := sSeq stA (sSeq stB (sSeq stC (sSeq stD (sSeq stE (sSeq stF stG)))))
section
variable {bs : List Nat} {e0 e1 e2 x4 x5 x6 x7 : Option W} {U : Store} {r : Row}
theorem v_row : mVar 3 bs [e0, e1, e2, some (.dat (rowD r)), x4, x5, x6, x7] U = .ok (.dat (rowD r)) U := rfl
theorem v_r0 : r0 bs [e0, e1, e2, some (.dat (rowD r)), x4, x5, x6, x7] U = .ok (.dat (tI r.1)) U := rfl
theorem v_r1 : r1 bs [e0, e1, e2, some (.dat (rowD r)), x4, x5, x6, x7] U = .ok (.dat (tI r.2)) U := rfl
theorem t_row : EvT 2 (mVar 3) bs [e0, e1, e2, some (.dat (rowD r)), x4, x5, x6, x7] U := ⟨_, v_row, by simp⟩
theorem t_r0 (h : RowOk r) : EvT 3 r0 bs [e0, e1, e2, some (.dat (rowD r)), x4, x5, x6, x7] U := ⟨_, v_r0, by rw [List.length_map]; exact h.k2⟩
theorem t_r1 (h : RowOk r) : EvT 8 r1 bs [e0, e1, e2, some (.dat (rowD r)), x4, x5, x6, x7] U := ⟨_, v_r1, by rw [List.length_map]; exact h.v2⟩
theorem l_odd1 (h : RowOk r) : EvL 7 odd1 bs [e0, e1, e2, some (.dat (rowD r)), x4, x5, x6, x7] U :=
  .cons t_row.list (.cons (EvT.add t_row t_row (by omega)).d (.cons (EvT.slice t_row part_0 part_1).d (.cons (EvL.tup (.cons (t_r0 h).list (.cons (t_r1 h).d .nil)) (by omega)).d
    (.cons (EvL.tup (.cons (t_r0 h).d (.cons (t_r1 h).list .nil)) (by omega)).d (.cons (EvL.tup (.cons (EvL.tup .nil (by omega)).d (.cons (t_r1 h).d .nil)) (by omega)).d (.cons (EvL.tup (.cons (t_r0 h).d (.cons (EvL.tup .nil (by omega)).d .nil)) (by omega)).d .nil))))))
theorem l_odd2 (h : RowOk r) : EvL 4 odd2 bs [e0, e1, e2, some (.dat (rowD r)), x4, x5, x6, x7] U :=
  .cons (EvL.tup (.cons (EvT.add (t_r0 h) (EvL.tup (.cons (.con _) (.cons (.con _) (.cons (.con _) .nil))) (by omega)) (by omega)).d (.cons (t_r1 h).d .nil)) (by omega)).d
    (.cons (EvL.tup (.cons (t_r0 h).d (.cons (EvT.add (t_r1 h) .eight (by omega)).d .nil)) (by omega)).d
    (.cons (EvL.tup (.cons (EvT.add (EvT.slice (t_r0 h) part_0 part_neg1) (EvL.tup (.cons .neg1 .nil) (by omega)) (by omega)).d (.cons (t_r1 h).d .nil)) (by omega)).d (.cons (.con _) .nil)))
theorem l_odd3 (h : RowOk r) : EvL 3 odd3 bs [e0, e1, e2, some (.dat (rowD r)), x4, x5, x6, x7] U :=
  .cons (EvL.tup (.cons (t_r0 h).d (.cons (EvT.add (EvT.slice (t_r1 h) part_0 part_neg1) (EvL.tup (.cons .p18 .nil) (by omega)) (by omega)).d .nil)) (by omega)).d
    (.cons (EvL.tup (.cons (t_r0 h).d (.cons (EvT.add (EvT.slice (t_r1 h) part_0 part_neg1) (EvL.tup (.cons (.con _) .nil) (by omega)) (by omega)).d .nil)) (by omega)).d
    (.cons (EvL.tup (.cons (EvT.add (EvT.slice (t_r0 h) part_0 part_neg1) (EvL.tup (.cons (.con _) .nil) (by omega)) (by omega)).d (.cons (t_r1 h).d .nil)) (by omega)).d .nil))
theorem it_of {m : M W} {cs : List Int} {env : Rf.Env} (h : m bs env U = .ok (.dat (tI cs)) U) : mIt m bs env U = .ok (.items ((cs.map .int).map .dat)) U := by
  unfold mIt
  rw [h, Out.bind_ok]
  rfl
theorem d_odd4 (h : RowOk r) : EvD odd4 bs [e0, e1, e2, some (.dat (rowD r)), x4, x5, x6, x7] U :=
  (EvL.tup (.cons (bent_row (m := r0) r.1 (by have := h.k2; omega) x7 (it_of v_r0)).d (.cons (t_r1 h).d .nil)) (by omega)).d
theorem d_odd5 (h : RowOk r) : EvD odd5 bs [e0, e1, e2, some (.dat (rowD r)), x4, x5, x6, x7] U :=
  (EvL.tup (.cons (t_r0 h).d (.cons (bent_row (m := r1) r.2 (by have := h.v2; omega) x7 (it_of v_r1)).d .nil)) (by omega)).d
end
theorem add_cell {bs : List Nat} {U : Store} {o : Nat} {us : List W} {ds : List PyData} (h : U[o]? = some (.lst us)) (hl : us.length + ds.length ≤ 100000) : addF true bs (.loc o) (.dat (.list ds)) U = some (.loc U.length, U ++ [.lst (us ++ ds.map .dat)]) := by
  unfold addF
  simp only [tupOf, lstM, h, List.length_map]
  rw [if_pos hl]
  rfl
theorem app_cell {bs : List Nat} {U : Store} {o : Nat} {us : List W} {d : PyData} (h : U[o]? = some (.lst us)) (hl : us.length < 100000) : appF bs (.loc o) [.dat d] U = some (.non, U.set o (.lst (us ++ [.dat d]))) := by
  unfold appF
  simp only [h]
  rw [if_pos ⟨hl, may_dat _ _ _⟩]
theorem ext_cell {bs : List Nat} {U : Store} {o : Nat} {us : List W} {ds : List PyData} (h : U[o]? = some (.lst us)) (hl : us.length + ds.length ≤ 100000) : extF bs (.loc o) [.dat (.list ds)] U = some (.non, U.set o (.lst (us ++ ds.map .dat))) := by
  unfold extF extOf
  simp only [h, List.length_map]
  rw [if_pos]
  refine ⟨hl, ?_⟩
  rw [List.all_eq_true]
  intro w hw
  obtain ⟨d, _, rfl⟩ := List.mem_map.mp hw
  exact may_dat _ _ _
theorem ty_cell {U : Store} {o : Nat} {us : List W} (h : U[o]? = some (.lst us)) : wTy .lst (.loc o) U = true := by simp [wTy, lstOf, h]
theorem mMt_ok {T : MTy} {f : OpM} {mo : M W} {ms : M (List W)} {bs : List Nat} {env : Rf.Env} {S S1 S2 S3 : Store} {o r : W} {ws : List W} (h : mo bs env S = .ok o S1) (ht : wTy T o S1 = true) (h2 : ms bs env S1 = .ok ws S2) (h3 : f bs o ws S2 = some (r, S3)) : mMt T f mo ms bs env S = .ok r S3 := by
  unfold mMt
  rw [h, Out.bind_ok, if_pos ht, h2, Out.bind_ok, h3]
theorem asg_ok {m : M W} {i : Nat} {bs : List Nat} {env : Rf.Env} {S S1 : Store} {w : W} (h : m bs env S = .ok w S1) : sAsg m (tName i) bs env S = .nx (env.set i (some w)) S1 := by
  unfold sAsg
  rw [h]
  rfl
theorem drop_ok {m : M W} {bs : List Nat} {env : Rf.Env} {S S1 : Store} {w : W} (h : m bs env S = .ok w S1) : sDrop m bs env S = .nx env S1 := by
  unfold sDrop
  rw [h]
  rfl
theorem seq_ok {m n : MS} {bs : List Nat} {env env1 : Rf.Env} {S S1 : Store} (h : m bs env S = .nx env1 S1) : sSeq m n bs env S = n bs env1 S1 := by
  unfold sSeq
  rw [h]
  rfl
end V

set_option maxHeartbeats 4000000
namespace V
open PySem L2 PyProof.Rows Rf

theorem near_step {bs : List Nat} {S U : Store} {c : Nat} {rs : List Row} {r : Row} {fnd : List W} {e0 x3 x4 x5 x6 x7 : Option W} (hr : r ∈ rs) (ok : RowOk r) (hl : rs.length ≤ 12) (hU : Lay S U c fnd) (hf : fnd.length ≤ 2000) :
    ∃ (env' : Rf.Env) (U' : Store) (more : List W), tBody (tName 3) nBody (.dat (rowD r)) bs [e0, some (.kt (rs.map rowD)), some (.loc c), x3, x4, x5, x6, x7] U = .nx env' U' ∧ Lay S U' c (fnd ++ more) ∧ more.length ≤ 50 ∧ (∀ w ∈ more, Fine w) ∧
      ∃ y3 y4 y5 y6 y7, env' = [e0, some (.kt (rs.map rowD)), some (.loc c), y3, y4, y5, y6, y7] := by
  have t : tBody (tName 3) nBody (.dat (rowD r)) bs [e0, some (.kt (rs.map rowD)), some (.loc c), x3, x4, x5, x6, x7] U = nBody bs [e0, some (.kt (rs.map rowD)), some (.loc c), some (.dat (rowD r)), x4, x5, x6, x7] U := rfl
  rw [t]
  obtain ⟨j, hj, hx⟩ := idx_row hr bs U
  have sA : stA bs [e0, some (.kt (rs.map rowD)), some (.loc c), some (.dat (rowD r)), x4, x5, x6, x7] U = .nx [e0, some (.kt (rs.map rowD)), some (.loc c), some (.dat (rowD r)), some (.int j), x5, x6, x7] U := by
    have m : mMtK idxF (mVarK 1) (mCons (mVar 3) mNil) bs [e0, some (.kt (rs.map rowD)), some (.loc c), some (.dat (rowD r)), x4, x5, x6, x7] U = .ok (.int j) U := by
      have vk : mVarK 1 bs [e0, some (.kt (rs.map rowD)), some (.loc c), some (.dat (rowD r)), x4, x5, x6, x7] U = .ok (.kt (rs.map rowD)) U := rfl
      unfold mMtK
      rw [vk, Out.bind_ok, if_pos (show isKt (.kt (rs.map rowD)) = true from rfl), mCons_ok v_row mNil_ok, Out.bind_ok, hx]
    exact asg_ok m
  obtain ⟨o1, q1, b1⟩ := l_odd1 (bs := bs) (e0 := e0) (e1 := some (.kt (rs.map rowD))) (e2 := some (.loc c)) (x4 := some (.int j)) (x5 := x5) (x6 := x6) (x7 := x7) (U := U) ok
  have sB : stB bs [e0, some (.kt (rs.map rowD)), some (.loc c), some (.dat (rowD r)), some (.int j), x5, x6, x7] U = .nx [e0, some (.kt (rs.map rowD)), some (.loc c), some (.dat (rowD r)), some (.int j), some (.loc U.length), x6, x7] (U ++ [.lst (o1.map .dat)]) :=
    asg_ok (mLst_ok q1 (by simp; omega))
  have L1 := hU.push (.lst (o1.map .dat))
  have g1 := st_get U (.lst (o1.map .dat))
  obtain ⟨o2, q2, b2⟩ := l_odd2 (bs := bs) (e0 := e0) (e1 := some (.kt (rs.map rowD))) (e2 := some (.loc c)) (x4 := some (.int j)) (x5 := some (.loc U.length)) (x6 := x6) (x7 := x7) (U := U ++ [.lst (o1.map .dat)]) ok
  have l2 := mLst_ok (k := false) q2 (by simp; omega)
  rw [newL_f, mkLst_dat] at l2
  have a2 := add_cell (bs := bs) g1 (ds := o2) (by simp; omega)
  rw [← List.map_append] at a2
  have sC : stC bs [e0, some (.kt (rs.map rowD)), some (.loc c), some (.dat (rowD r)), some (.int j), some (.loc U.length), x6, x7] (U ++ [.lst (o1.map .dat)]) = .nx [e0, some (.kt (rs.map rowD)), some (.loc c), some (.dat (rowD r)), some (.int j), some (.loc (U ++ [Cell.lst (o1.map .dat)]).length), x6, x7] (U ++ [.lst (o1.map .dat)] ++ [.lst ((o1 ++ o2).map .dat)]) :=
    asg_ok (mBin_ok rfl l2 a2)
  have L2 := L1.push (.lst ((o1 ++ o2).map .dat))
  generalize hU1 : U ++ [Cell.lst (o1.map W.dat)] = U1 at *
  have g2 := st_get U1 (.lst ((o1 ++ o2).map .dat))
  obtain ⟨o3, q3, b3⟩ := l_odd3 (bs := bs) (e0 := e0) (e1 := some (.kt (rs.map rowD))) (e2 := some (.loc c)) (x4 := some (.int j)) (x5 := some (.loc U1.length)) (x6 := x6) (x7 := x7) (U := U1 ++ [.lst ((o1 ++ o2).map .dat)]) ok
  have l3 := mLst_ok (k := false) q3 (by simp; omega)
  rw [newL_f, mkLst_dat] at l3
  have a3 := add_cell (bs := bs) g2 (ds := o3) (by simp; omega)
  rw [← List.map_append] at a3
  have sD : stD bs [e0, some (.kt (rs.map rowD)), some (.loc c), some (.dat (rowD r)), some (.int j), some (.loc U1.length), x6, x7] (U1 ++ [.lst ((o1 ++ o2).map .dat)]) = .nx [e0, some (.kt (rs.map rowD)), some (.loc c), some (.dat (rowD r)), some (.int j), some (.loc (U1 ++ [Cell.lst ((o1 ++ o2).map .dat)]).length), x6, x7] (U1 ++ [.lst ((o1 ++ o2).map .dat)] ++ [.lst ((o1 ++ o2 ++ o3).map .dat)]) :=
    asg_ok (mBin_ok rfl l3 a3)
  have L3 := L2.push (.lst ((o1 ++ o2 ++ o3).map .dat))
  have lt2 := L2.lt
  generalize hU2 : U1 ++ [Cell.lst ((o1 ++ o2).map W.dat)] = U2 at *
  have g3 := st_get U2 (.lst ((o1 ++ o2 ++ o3).map .dat))
  generalize hos : o1 ++ o2 ++ o3 = os at *
  have los : os.length ≤ 14 := by rw [← hos]; simp; omega
  -- two more
  obtain ⟨d4, q4⟩ := d_odd4 (bs := bs) (e0 := e0) (e1 := some (.kt (rs.map rowD))) (e2 := some (.loc c)) (x4 := some (.int j)) (x5 := some (.loc U2.length)) (x6 := x6) (x7 := x7) (U := U2 ++ [.lst (os.map .dat)]) ok
  have a4 := app_cell (bs := bs) g3 (d := d4) (by simp; omega)
  have sE : stE bs [e0, some (.kt (rs.map rowD)), some (.loc c), some (.dat (rowD r)), some (.int j), some (.loc U2.length), x6, x7] (U2 ++ [.lst (os.map .dat)]) = .nx [e0, some (.kt (rs.map rowD)), some (.loc c), some (.dat (rowD r)), some (.int j), some (.loc U2.length), x6, x7] ((U2 ++ [Cell.lst (os.map W.dat)]).set U2.length (Cell.lst (os.map W.dat ++ [W.dat d4]))) :=
    drop_ok (mMt_ok rfl (ty_cell g3) (mCons_ok q4 mNil_ok) a4)
  rw [st_set] at sE
  have e4 : os.map W.dat ++ [.dat d4] = (os ++ [d4]).map .dat := by simp
  rw [e4] at sE
  have g4 := st_get U2 (.lst ((os ++ [d4]).map .dat))
  obtain ⟨d5, q5⟩ := d_odd5 (bs := bs) (e0 := e0) (e1 := some (.kt (rs.map rowD))) (e2 := some (.loc c)) (x4 := some (.int j)) (x5 := some (.loc U2.length)) (x6 := x6) (x7 := x7) (U := U2 ++ [.lst ((os ++ [d4]).map .dat)]) ok
  have a5 := app_cell (bs := bs) g4 (d := d5) (by simp; omega)
  have sF : stF bs [e0, some (.kt (rs.map rowD)), some (.loc c), some (.dat (rowD r)), some (.int j), some (.loc U2.length), x6, x7] (U2 ++ [.lst ((os ++ [d4]).map .dat)]) = .nx [e0, some (.kt (rs.map rowD)), some (.loc c), some (.dat (rowD r)), some (.int j), some (.loc U2.length), x6, x7] ((U2 ++ [Cell.lst ((os ++ [d4]).map W.dat)]).set U2.length (Cell.lst ((os ++ [d4]).map W.dat ++ [W.dat d5]))) :=
    drop_ok (mMt_ok rfl (ty_cell g4) (mCons_ok q5 mNil_ok) a5)
  rw [st_set] at sF
  have e5 : (os ++ [d4]).map W.dat ++ [.dat d5] = (os ++ [d4] ++ [d5]).map .dat := by simp
  rw [e5] at sF
  generalize hall : os ++ [d4] ++ [d5] = al at *
  have lal : al.length ≤ 16 := by rw [← hall]; simp; omega
  have L5 := L2.push (.lst (al.map .dat))
  have g5 := st_get U2 (.lst (al.map .dat))
  -- the values near the rows
  have hm : mIt (mVar 5) bs [e0, some (.kt (rs.map rowD)), some (.loc c), some (.dat (rowD r)), some (.int j), some (.loc U2.length), x6, x7] (U2 ++ [.lst (al.map .dat)]) = .ok (.cell U2.length) (U2 ++ [.lst (al.map .dat)]) := by
    have vv : mVar 5 bs [e0, some (.kt (rs.map rowD)), some (.loc c), some (.dat (rowD r)), some (.int j), some (.loc U2.length), x6, x7] (U2 ++ [.lst (al.map .dat)]) = .ok (.loc U2.length) (U2 ++ [.lst (al.map .dat)]) := rfl
    unfold mIt
    rw [vv, Out.bind_ok]
    simp only [it_st]
  have lj : j < (rs.map rowD).length := by rw [List.length_map]; exact hj
  have comp := mComp_mapIt (k := false) (i := 6) (vs := [6]) (e := mBin (addF false) (mBin (addF false) (mSl (slF false) (mVar 1) mNoPart (mPart (mVar 4))) (mTup (mCons (mVar 6) mNil))) (mSl (slF false) (mVar 1) (mPart (mBin (addF false) (mVar 4) (mCon (.int 1)))) mNoPart)) hm (next_st U2 (al.map .dat)) (by simp [Iter.fuel]; omega)
    (fun w => match w with | .dat d => .dat (.tuple ((rs.map rowD).take j ++ [d] ++ (rs.map rowD).drop (j + 1))) | w => w) (fun w hw => by
      obtain ⟨d, _, rfl⟩ := List.mem_map.mp hw
      have wp : (wipeE [e0, some (W.kt (rs.map rowD)), some (W.loc c), some (W.dat (rowD r)), some (W.int j), some (W.loc U2.length), x6, x7] [6]).set 6 (some (W.dat d)) = [e0, some (.kt (rs.map rowD)), some (.loc c), some (.dat (rowD r)), some (.int j), some (.loc U2.length), some (.dat d), x7] := rfl
      rw [wp]
      have tk := (TupW.of_tw (rs.map rowD)).take lj (U2 ++ [.lst (al.map .dat)])
      have dr := (TupW.of_tw (rs.map rowD)).drop lj (U2 ++ [.lst (al.map .dat)])
      have s1 : mSl (slF false) (mVar 1) mNoPart (mPart (mVar 4)) bs [e0, some (.kt (rs.map rowD)), some (.loc c), some (.dat (rowD r)), some (.int j), some (.loc U2.length), some (.dat d), x7] (U2 ++ [.lst (al.map .dat)]) = .ok (.dat (.tuple ((rs.map rowD).take j))) (U2 ++ [.lst (al.map .dat)]) := by
        show Out.bind (.ok (W.tw ((rs.map rowD).map W.dat)) _) _ = _
        rw [Out.bind_ok]
        show Out.bind (.ok none _) _ = _
        rw [Out.bind_ok]
        show Out.bind (.ok (some (j : Int)) _) _ = _
        rw [Out.bind_ok, tk]
      have s2 : mSl (slF false) (mVar 1) (mPart (mBin (addF false) (mVar 4) (mCon (.int 1)))) mNoPart bs [e0, some (.kt (rs.map rowD)), some (.loc c), some (.dat (rowD r)), some (.int j), some (.loc U2.length), some (.dat d), x7] (U2 ++ [.lst (al.map .dat)]) = .ok (.dat (.tuple ((rs.map rowD).drop (j + 1)))) (U2 ++ [.lst (al.map .dat)]) := by
        show Out.bind (.ok (W.tw ((rs.map rowD).map W.dat)) _) _ = _
        rw [Out.bind_ok]
        show Out.bind (.ok (some ((j : Int) + 1)) _) _ = _
        rw [Out.bind_ok]
        show Out.bind (.ok none _) _ = _
        rw [Out.bind_ok, dr]
      have s3 : mTup (mCons (mVar 6) mNil) bs [e0, some (.kt (rs.map rowD)), some (.loc c), some (.dat (rowD r)), some (.int j), some (.loc U2.length), some (.dat d), x7] (U2 ++ [.lst (al.map .dat)]) = .ok (.dat (.tuple [d])) (U2 ++ [.lst (al.map .dat)]) := rfl
      have lt : ((rs.map rowD).take j).length ≤ 12 := by rw [List.length_take, List.length_map]; omega
      have ld : ((rs.map rowD).drop (j + 1)).length ≤ 12 := by rw [List.length_drop, List.length_map]; omega
      have ad1 : addF false bs (.dat (.tuple ((rs.map rowD).take j))) (.dat (.tuple [d])) (U2 ++ [.lst (al.map .dat)]) = some (.dat (.tuple ((rs.map rowD).take j ++ [d])), U2 ++ [.lst (al.map .dat)]) := by
        show (if ((rs.map rowD).take j).length + 1 ≤ 100000 then _ else _) = _
        rw [if_pos (by omega)]
      have ad2 : addF false bs (.dat (.tuple ((rs.map rowD).take j ++ [d]))) (.dat (.tuple ((rs.map rowD).drop (j + 1)))) (U2 ++ [.lst (al.map .dat)]) = some (.dat (.tuple ((rs.map rowD).take j ++ [d] ++ (rs.map rowD).drop (j + 1))), U2 ++ [.lst (al.map .dat)]) := by
        show (if ((rs.map rowD).take j ++ [d]).length + ((rs.map rowD).drop (j + 1)).length ≤ 100000 then _ else _) = _
        rw [if_pos (by rw [List.length_append]; simp only [List.length_cons, List.length_nil]; omega)]
      exact mBin_ok (mBin_ok s1 s3 ad1) s2 ad2) (by simp; omega)
  have ec : (al.map W.dat).map (fun w => match w with | .dat d => W.dat (.tuple ((rs.map rowD).take j ++ [d] ++ (rs.map rowD).drop (j + 1))) | w => w) = (al.map fun d => PyData.tuple ((rs.map rowD).take j ++ [d] ++ (rs.map rowD).drop (j + 1))).map .dat := by
    rw [List.map_map, List.map_map]
    rfl
  rw [ec] at comp
  simp only [newL_f, mkLst_dat] at comp
  generalize hms : (al.map fun d => PyData.tuple ((rs.map rowD).take j ++ [d] ++ (rs.map rowD).drop (j + 1))) = ms at *
  have lms : ms.length ≤ 16 := by rw [← hms, List.length_map]; exact lal
  have xx := ext_cell (bs := bs) L5.at_ (ds := ms) (by omega)
  have mm : mMt .lst extF (mVar 2) (mCons exC mNil) bs [e0, some (.kt (rs.map rowD)), some (.loc c), some (.dat (rowD r)), some (.int j), some (.loc U2.length), x6, x7] (U2 ++ [.lst (al.map .dat)]) = .ok .non ((U2 ++ [Cell.lst (al.map W.dat)]).set c (Cell.lst (fnd ++ ms.map W.dat))) := mMt_ok rfl (ty_cell L5.at_) (mCons_ok comp mNil_ok) xx
  have sG : stG bs [e0, some (.kt (rs.map rowD)), some (.loc c), some (.dat (rowD r)), some (.int j), some (.loc U2.length), x6, x7] (U2 ++ [.lst (al.map .dat)]) = .nx [e0, some (.kt (rs.map rowD)), some (.loc c), some (.dat (rowD r)), some (.int j), some (.loc U2.length), x6, x7] ((U2 ++ [Cell.lst (al.map W.dat)]).set c (Cell.lst (fnd ++ ms.map W.dat))) :=
    drop_ok mm
  refine ⟨_, _, ms.map .dat, ?_, L5.setC _, by rw [List.length_map]; omega, fun w hw => ?_, some (.dat (rowD r)), some (.int j), some (.loc U2.length), x6, x7, rfl⟩
  · unfold nBody
    rw [seq_ok sA, seq_ok sB, seq_ok sC, seq_ok sD, seq_ok sE, seq_ok sF, sG]
  · obtain ⟨d, hd, rfl⟩ := List.mem_map.mp hw
    rw [← hms] at hd
    obtain ⟨y, _, rfl⟩ := List.mem_map.mp hd
    refine .inl ⟨_, .of _, ?_⟩
    rw [List.length_append, List.length_append, List.length_take, List.length_drop, List.length_map]
    simp only [List.length_cons, List.length_nil]
    omega
end V

set_option maxHeartbeats 4000000
namespace V
open PySem L2 PyProof.Rows Rf

theorem pairs_rows : ∀ rs : List Row, pairsKD (rs.map rowD) = some (rs.map fun r => (r.1.map Sum.inl, tI r.2))
  | [] => rfl
  | r :: rs => by
    have h : pairKD (rowD r) = some (r.1.map Sum.inl, tI r.2) := by
      show (keysD (r.1.map .int)).map _ = _
      rw [keysD_int]; rfl
    show (match pairKD (rowD r), pairsKD (rs.map rowD) with | some p, some ps => some (p :: ps) | _, _ => none) = _
    rw [h, pairs_rows rs]
    rfl
theorem dict_rows {rs : List Row} (nd : (rs.map (·.1)).Nodup) (bs : List Nat) (S : Store) : ∃ kvs, dictKF bs [.kt (rs.map rowD)] S = some (.dat (.dict kvs), S) := by
  have nd2 : ((rs.map fun r => (r.1.map (Sum.inl : Int → Int ⊕ Str), tI r.2)).map (·.1)).Nodup := by
    have e : (rs.map fun r => (r.1.map (Sum.inl : Int → Int ⊕ Str), tI r.2)).map (·.1) = (rs.map (·.1)).map fun k => k.map (Sum.inl : Int → Int ⊕ Str) := by
      rw [List.map_map, List.map_map]; rfl
    rw [e]
    exact List.Pairwise.map _ (fun a b h z => h (inl_inj z)) nd
  refine ⟨(rs.map fun r => (r.1.map (Sum.inl : Int → Int ⊕ Str), tI r.2)).map fun p => (.tuple (p.1.map kD), p.2), ?_⟩
  unfold dictKF
  simp only [pairs_rows]
  rw [if_pos nd2]
abbrev l0 : M (List W) := (mCons (mVar 1) (mCons (mBack false (mVar 1)) (mCons (mBin (addF false) (mVar 1) (mVar 1)) (mCons (mCB (listF false) (mCons (mVar 1) mNil)) (mCons (mCon .none) (mCons (mTup mNil) (mCons (mDic0 false) (mCons (mCon (.int 5)) (mCons (mCon (.str "rows")) (mCons (mCB (dictKF) (mCons (mVarK 1) mNil)) (mCons (mTup (mCons (mTup (mCons (mTup (mCons (mCon (.int 1)) mNil)) (mCons (mTup (mCons (mCon (.int 2)) mNil)) mNil))) mNil)) (mCons (mTup (mCons (mTup (mCons (mCon (.int 1)) mNil)) (mCons (mTup (mCons (mCon (.int 2)) mNil)) mNil))) mNil))))))))))))
theorem l0_ok {rs : List Row} (nd : (rs.map (·.1)).Nodup) (hl : rs.length ≤ 12) (bs : List Nat) (e0 e2 e3 e4 e5 e6 e7 : Option W) (S : Store) : ∃ ws, l0 bs [e0, some (.kt (rs.map rowD)), e2, e3, e4, e5, e6, e7] S = .ok ws S ∧ ws.length ≤ 12 ∧ ∀ w ∈ ws, Fine w := by
  have v1 : mVar 1 bs [e0, some (.kt (rs.map rowD)), e2, e3, e4, e5, e6, e7] S = .ok (.tw ((rs.map rowD).map .dat)) S := rfl
  have vk : mVarK 1 bs [e0, some (.kt (rs.map rowD)), e2, e3, e4, e5, e6, e7] S = .ok (.kt (rs.map rowD)) S := rfl
  have ld : (rs.map rowD).length ≤ 12 := by rw [List.length_map]; exact hl
  have t := TupW.of_tw (rs.map rowD)
  have b : mBack false (mVar 1) bs [e0, some (.kt (rs.map rowD)), e2, e3, e4, e5, e6, e7] S = .ok (.dat (.tuple (rs.map rowD).reverse)) S := by
    unfold mBack
    rw [v1, Out.bind_ok]
    show Out.ok (mkTup ((rs.map rowD).map W.dat).reverse) S = _
    rw [← List.map_reverse, mkTup_dat]
  obtain ⟨z, a1, a2⟩ := t.add t (by omega) bs S
  obtain ⟨kvs, dk⟩ := dict_rows nd bs S
  have li : mCB (listF false) (mCons (mVar 1) mNil) bs [e0, some (.kt (rs.map rowD)), e2, e3, e4, e5, e6, e7] S = .ok (.dat (.list (rs.map rowD))) S := mCB_ok (mCons_ok v1 mNil_ok) (by
    show (seqOf S (.tw ((rs.map rowD).map .dat))).map (fun xs => newL false xs S) = _
    show some (newL false ((rs.map rowD).map W.dat) S) = _
    rw [newL_f, mkLst_dat])
  have q := mCons_ok v1 (mCons_ok b (mCons_ok (mBin_ok v1 v1 a1) (mCons_ok li (mCons_ok (show mCon .none bs [e0, some (.kt (rs.map rowD)), e2, e3, e4, e5, e6, e7] S = .ok .non S from rfl) (mCons_ok (show mTup mNil bs [e0, some (.kt (rs.map rowD)), e2, e3, e4, e5, e6, e7] S = .ok (.dat (.tuple [])) S from rfl)
    (mCons_ok (show mDic0 false bs [e0, some (.kt (rs.map rowD)), e2, e3, e4, e5, e6, e7] S = .ok (.dat (.dict [])) S from rfl) (mCons_ok (show mCon (.int 5) bs [e0, some (.kt (rs.map rowD)), e2, e3, e4, e5, e6, e7] S = .ok (.int 5) S from rfl) (mCons_ok (show mCon (.str "rows") bs [e0, some (.kt (rs.map rowD)), e2, e3, e4, e5, e6, e7] S = .ok (.str "rows") S from rfl)
    (mCons_ok (mCB_ok (mCons_ok vk mNil_ok) dk) (mCons_ok (show mTup (mCons (mTup (mCons (mTup (mCons (mCon (.int 1)) mNil)) (mCons (mTup (mCons (mCon (.int 2)) mNil)) mNil))) mNil) bs [e0, some (.kt (rs.map rowD)), e2, e3, e4, e5, e6, e7] S = .ok (.dat (.tuple [.tuple [.tuple [.int 1], .tuple [.int 2]]])) S from rfl)
    (mCons_ok (show mTup (mCons (mTup (mCons (mCon (.int 1)) mNil)) (mCons (mTup (mCons (mCon (.int 2)) mNil)) mNil)) bs [e0, some (.kt (rs.map rowD)), e2, e3, e4, e5, e6, e7] S = .ok (.dat (.tuple [.tuple [.int 1], .tuple [.int 2]])) S from rfl) (mNil_ok (bs := bs) (env := [e0, some (.kt (rs.map rowD)), e2, e3, e4, e5, e6, e7]) (S := S)))))))))))))
  refine ⟨_, q, by simp, fun w hw => ?_⟩
  simp only [List.mem_cons, List.not_mem_nil, or_false] at hw
  rcases hw with rfl | rfl | rfl | rfl | rfl | rfl | rfl | rfl | rfl | rfl | rfl | rfl
  · exact .inl ⟨_, t, by omega⟩
  · exact .inl ⟨_, .of _, by rw [List.length_reverse]; omega⟩
  · exact .inl ⟨_, a2, by rw [List.length_append]; omega⟩
  · exact .inr ⟨_, rfl, fun ds z => nomatch z⟩
  · exact .inr ⟨_, rfl, fun ds z => nomatch z⟩
  · exact .inl ⟨_, .of _, by simp⟩
  · exact .inr ⟨_, rfl, fun ds z => nomatch z⟩
  · exact .inr ⟨_, rfl, fun ds z => nomatch z⟩
  · exact .inr ⟨_, rfl, fun ds z => nomatch z⟩
  · exact .inr ⟨_, rfl, fun ds z => nomatch z⟩
  · exact .inl ⟨_, .of _, by simp⟩
  · exact .inl ⟨_, .of _, by simp⟩
theorem ev_near_rows {bs : List Nat} {S : Store} {e0 : W} {rs : List Row} (ok : ∀ r ∈ rs, RowOk r) (nd : (rs.map (·.1)).Nodup) (hl : rs.length ≤ 12) :
    ∃ U vs, F__law_near_rows bs [e0, .kt (rs.map rowD)] S = .ok (.loc S.length) U ∧ Lay S U S.length vs ∧ vs.length ≤ 2000 ∧ ∀ w ∈ vs, Fine w := by
  obtain ⟨w0, q0, l0', f0⟩ := l0_ok nd hl (S.length :: bs) (some e0) none none none none none none S
  have s1 : sAsg (mLst true l0) (tName 2) (S.length :: bs) [some e0, some (.kt (rs.map rowD)), none, none, none, none, none, none] S = .nx [some e0, some (.kt (rs.map rowD)), some (.loc S.length), none, none, none, none, none] (S ++ [.lst w0]) :=
    asg_ok (mLst_ok q0 (by omega))
  have L0 : Lay S (S ++ [.lst w0]) S.length w0 := ⟨st_get _ _, fun m hm => List.getElem?_append_left hm⟩
  obtain ⟨a1, u1, h1, t1, n1, m1⟩ := (TupW.of_tw (rs.map rowD)).any none (some 1) (S ++ [.lst w0])
  obtain ⟨a2, u2, h2, t2, n2, m2⟩ := (TupW.of_tw (rs.map rowD)).any (some (-1)) none (S ++ [.lst w0])
  have ld : (rs.map rowD).length ≤ 12 := by rw [List.length_map]; exact hl
  obtain ⟨z, z1, z2⟩ := t1.add t2 (by omega) (S.length :: bs) (S ++ [.lst w0])
  have hm : mIt (mBin (addF false) (mSl (slF false) (mVar 1) mNoPart (mPart (mCon (.int 1)))) (mSl (slF false) (mVar 1) (mPart (mNeg (mCon (.int 1)))) mNoPart)) (S.length :: bs) [some e0, some (.kt (rs.map rowD)), some (.loc S.length), none, none, none, none, none] (S ++ [.lst w0]) = .ok (.items ((a1 ++ a2).map .dat)) (S ++ [.lst w0]) := by
    have p1 : mSl (slF false) (mVar 1) mNoPart (mPart (mCon (.int 1))) (S.length :: bs) [some e0, some (.kt (rs.map rowD)), some (.loc S.length), none, none, none, none, none] (S ++ [.lst w0]) = .ok u1 (S ++ [.lst w0]) := by
      show Out.bind (.ok (W.tw ((rs.map rowD).map W.dat)) _) _ = _
      rw [Out.bind_ok]
      show Out.bind (.ok none _) _ = _
      rw [Out.bind_ok]
      show Out.bind (.ok (some 1) _) _ = _
      rw [Out.bind_ok, h1]
    have p2 : mSl (slF false) (mVar 1) (mPart (mNeg (mCon (.int 1)))) mNoPart (S.length :: bs) [some e0, some (.kt (rs.map rowD)), some (.loc S.length), none, none, none, none, none] (S ++ [.lst w0]) = .ok u2 (S ++ [.lst w0]) := by
      show Out.bind (.ok (W.tw ((rs.map rowD).map W.dat)) _) _ = _
      rw [Out.bind_ok]
      show Out.bind (.ok (some (-1)) _) _ = _
      rw [Out.bind_ok]
      show Out.bind (.ok none _) _ = _
      rw [Out.bind_ok, h2]
    unfold mIt
    rw [mBin_ok p1 p2 z1, Out.bind_ok]
    simp only [z2.it]
  obtain ⟨env', U, run, fnd, LU, lf, ff, y3, y4, y5, y6, y7, rfl⟩ := sFor_end (t := tName 3) (m := nBody) hm (fun k env U => ∃ fnd, Lay S U S.length fnd ∧ fnd.length ≤ 12 + 50 * k ∧ (∀ w ∈ fnd, Fine w) ∧ ∃ y3 y4 y5 y6 y7, env = [some e0, some (.kt (rs.map rowD)), some (.loc S.length), y3, y4, y5, y6, y7])
    ⟨w0, L0, by omega, f0, none, none, none, none, none, rfl⟩ (fun k w env U hk ⟨fnd, LU, lf, ff, y3, y4, y5, y6, y7, he⟩ => by
      subst he
      have hk2 := (List.getElem?_eq_some_iff.mp hk).1
      rw [List.length_map, List.length_append] at hk2
      have hm := List.mem_of_getElem? hk
      obtain ⟨d, hd, rfl⟩ := List.mem_map.mp hm
      have hd2 : d ∈ rs.map rowD := by
        rcases List.mem_append.mp hd with hd | hd
        · exact m1 d hd
        · exact m2 d hd
      obtain ⟨r, hr, rfl⟩ := List.mem_map.mp hd2
      obtain ⟨env', U', more, g1, g2, g3, g4, g5⟩ := near_step (bs := S.length :: bs) (e0 := some e0) (x3 := y3) (x4 := y4) (x5 := y5) (x6 := y6) (x7 := y7) hr (ok r hr) hl LU (by omega)
      refine ⟨env', U', g1, fnd ++ more, g2, by rw [List.length_append]; omega, fun w hw => ?_, g5⟩
      rcases List.mem_append.mp hw with hw | hw
      · exact ff w hw
      · exact g4 w hw)
  rw [List.length_map, List.length_append] at lf
  refine ⟨U, fnd, ?_, LU, by omega, ff⟩
  unfold F__law_near_rows
  rw [fnM_eq (by rfl)]
  have se : startE 8 [e0, .kt (rs.map rowD)] = [some e0, some (.kt (rs.map rowD)), none, none, none, none, none, none] := rfl
  have body : m__law_near_rows = sSeq (sAsg (mLst true l0) (tName 2)) (sSeq (sFor (mIt (mBin (addF false) (mSl (slF false) (mVar 1) mNoPart (mPart (mCon (.int 1)))) (mSl (slF false) (mVar 1) (mPart (mNeg (mCon (.int 1)))) mNoPart))) (tName 3) nBody) (sRet (mVar 2))) := rfl
  rw [se, body, seq_ok s1, seq_ok run]
  show popR S.length (.ok (.loc S.length) U) = _
  simp [popR, W.und]
end V

set_option maxHeartbeats 4000000
namespace V
open PySem L2 PyProof.Rows Rf

theorem ne_same {d : PyData} (hp : d.plain = true) (hd : d.depth ≤ 64) (bs : List Nat) {x y : W} {S : Store} (hx : viewD S x = some d) (hy : viewD S y = some d) : eqF true bs x y S = some (.bl false, S) := by
  unfold eqF
  rw [hx, hy]
  simp only
  rw [if_pos ⟨hp, hp, hd⟩]
  have : PyData.eqv d d = true := PySem.SeqAt.eqv_refl_plain d hp
  rw [this]
  rfl
theorem view_t (d : PyData) (S : Store) : viewD S (.dat d) = some d := rfl
theorem view_tw (ds : List PyData) (S : Store) : viewD S (.tw (ds.map .dat)) = some (.tuple ds) := by
  show (viewAll (ds.map .dat)).map PyData.tuple = _
  rw [viewAll_dat]; rfl
theorem plain_t (k : List Int) : (tI k).plain = true ∧ (tI k).depth ≤ 64 := by
  obtain ⟨h1, h2, _⟩ := good_ints k
  exact ⟨by rw [tI, PyData.plain]; exact h1, by rw [tI, PyData.depth]; omega⟩
theorem plain_rs (rs : List Row) : (PyData.tuple (rs.map rowD)).plain = true ∧ (PyData.tuple (rs.map rowD)).depth ≤ 64 := by
  obtain ⟨h1, h2, _⟩ := good_rows rs
  exact ⟨by rw [PyData.plain]; exact h1, by rw [PyData.depth]; omega⟩
theorem ne_t (bs : List Nat) (k : List Int) (S : Store) : eqF true bs (.dat (tI k)) (.dat (tI k)) S = some (.bl false, S) := ne_same (plain_t k).1 (plain_t k).2 bs rfl rfl
theorem ne_str (bs : List Nat) (t : Str) (S : Store) : eqF true bs (.dat (.str t)) (.dat (.str t)) S = some (.bl false, S) := ne_same (d := .str t) rfl (by simp [PyData.depth]) bs rfl rfl
theorem ne_told (bs : List Nat) (o : Option (List Row)) (S : Store) : eqF true bs (toldW o) (toldW o) S = some (.bl false, S) := by
  cases o with
  | none => exact ne_same (d := .none) rfl (by simp [PyData.depth]) bs rfl rfl
  | some rs => exact ne_same (plain_rs rs).1 (plain_rs rs).2 bs rfl rfl
theorem repr_b (bs : List Nat) (b : Bool) (S : Store) : ∃ t, reprF bs [.bl b] S = some (.str t, S) := ⟨_, rfl⟩
theorem repr_bb (bs : List Nat) (a b : Bool) (S : Store) : ∃ t, reprF bs [.dat (.list [.bool a, .bool b])] S = some (.str t, S) := by
  have ok : PyData.plain (.list [.bool a, .bool b]) = true ∧ PyData.showable (.list [.bool a, .bool b]) = true ∧ PyData.hasDict (.list [.bool a, .bool b]) = false ∧ PyData.depth (.list [.bool a, .bool b]) ≤ 64 ∧ (PyData.shown (.list [.bool a, .bool b])).length ≤ 100000 := by
    cases a <;> cases b <;> decide +kernel
  refine ⟨PyData.shown (.list [.bool a, .bool b]), ?_⟩
  show ((if _ then _ else _ : Option Str)).map _ = _
  rw [if_pos ok]
  rfl
theorem mB_ok {m : M W} {bs : List Nat} {env : Rf.Env} {S S1 : Store} {b : Bool} (h : m bs env S = .ok (.bl b) S1) : mB m bs env S = .ok b S1 := by
  unfold mB
  rw [h]
  rfl
theorem if_no {t : M Bool} {m n : MS} {bs : List Nat} {env : Rf.Env} {S S1 : Store} (h : t bs env S = .ok false S1) : sIf t m n bs env S = n bs env S1 := by
  unfold sIf
  rw [h, so_ok, if_neg (by simp)]
theorem or_no {t u : M Bool} {bs : List Nat} {env : Rf.Env} {S S1 S2 : Store} (h : t bs env S = .ok false S1) (h2 : u bs env S1 = .ok false S2) : mOr t u bs env S = .ok false S2 := by
  show Out.bind _ _ = _
  rw [h, Out.bind_ok, if_neg (by simp), h2]
abbrev rB4 : MS := sIf (mB (mBin (eqF true) (mCall F_row_cells (mCons (mVar 5) (mCons (mVar 4) mNil))) (mCall F__law_own_cells (mCons (mTup (mCons (mTup (mCons (mVar 5) (mCons (mVar 4) mNil))) mNil)) mNil)))) (sRet (mCon (.bool false))) sNil
abbrev rB5 : MS := sIf (mB (mBin (eqF true) (mCall F_rows_told (mCons (mVar 3) mNil)) (mCall F__law_read (mCons (mVar 3) mNil)))) (sRet (mCon (.bool false))) sNil
abbrev rB7 : MS := sIf (mB (mBin (eqF true) (mCB (reprF) (mCons (mLst false (mCons (mCall F_is_key (mCons (mVar 6) mNil)) (mCons (mCall F_is_row_value (mCons (mVar 6) mNil)) mNil))) mNil)) (mCB (reprF) (mCons (mLst false (mCons (mCall F__law_is_cells (mCons (mVar 6) (mCons (mCon (.int 3)) mNil))) (mCons (mCall F__law_is_cells (mCons (mVar 6) (mCons (mCon (.int 8)) mNil))) mNil))) mNil)))) (sRet (mCon (.bool false))) sNil
abbrev rB6 : MS := sSeq (sIf (mB (mBin (eqF true) (mCB (reprF) (mCons (mCall F_are_rows (mCons (mVar 4) mNil)) mNil)) (mCB (reprF) (mCons (mCall F__law_are_rows (mCons (mVar 4) mNil)) mNil)))) (sRet (mCon (.bool false))) sNil) (sFor (mIt (mIf (mTru (mIsi "tuple" (mVar 4))) (mVar 4) (mTup mNil))) (tName 6) rB7)
section
variable {bs : List Nat} {e0 e1 e2 e3 e4 e5 e6 : Option W} {S : Store}
theorem step4 {r : Row} (h : RowOk r) : tBody (tTup 2 (tCons (tName 5) (tCons (tName 4) tNil))) rB4 (.dat (rowD r)) bs [e0, e1, e2, e3, e4, e5, e6] S = .nx [e0, e1, e2, e3, some (.dat (tI r.2)), some (.dat (tI r.1)), e6] S := by
  have t : tBody (tTup 2 (tCons (tName 5) (tCons (tName 4) tNil))) rB4 (.dat (rowD r)) bs [e0, e1, e2, e3, e4, e5, e6] S = rB4 bs [e0, e1, e2, e3, some (.dat (tI r.2)), some (.dat (tI r.1)), e6] S := rfl
  have v5 : mVar 5 bs [e0, e1, e2, e3, some (.dat (tI r.2)), some (.dat (tI r.1)), e6] S = .ok (.dat (tI r.1)) S := rfl
  have v4 : mVar 4 bs [e0, e1, e2, e3, some (.dat (tI r.2)), some (.dat (tI r.1)), e6] S = .ok (.dat (tI r.2)) S := rfl
  have c1 : mCall F_row_cells (mCons (mVar 5) (mCons (mVar 4) mNil)) bs [e0, e1, e2, e3, some (.dat (tI r.2)), some (.dat (tI r.1)), e6] S = .ok (.dat (tI (encR r))) S := by
    rw [mCall_ok (mCons_ok v5 (mCons_ok v4 mNil_ok))]
    rw [ev_row_cells bs h S]
  have tt : mTup (mCons (mTup (mCons (mVar 5) (mCons (mVar 4) mNil))) mNil) bs [e0, e1, e2, e3, some (.dat (tI r.2)), some (.dat (tI r.1)), e6] S = .ok (.dat (.tuple ([r].map rowD))) S := rfl
  have c2 : mCall F__law_own_cells (mCons (mTup (mCons (mTup (mCons (mVar 5) (mCons (mVar 4) mNil))) mNil)) mNil) bs [e0, e1, e2, e3, some (.dat (tI r.2)), some (.dat (tI r.1)), e6] S = .ok (.dat (tI (encR r))) S := by
    rw [mCall_ok (mCons_ok tt mNil_ok)]
    rw [ev_own_cells (.of _) bs S (fun x hx => by rw [List.mem_singleton.mp hx]; exact h) (by simp)]
    simp [enc]
  rw [t]
  unfold rB4
  rw [if_no (mB_ok (mBin_ok c1 c2 (ne_t bs (encR r) S)))]
  rfl
theorem step5 {l : List Int} (h : Near l) : tBody (tName 3) rB5 (.dat (tI l)) bs [e0, e1, e2, e3, e4, e5, e6] S = .nx [e0, e1, e2, some (.dat (tI l)), e4, e5, e6] S := by
  have t : tBody (tName 3) rB5 (.dat (tI l)) bs [e0, e1, e2, e3, e4, e5, e6] S = rB5 bs [e0, e1, e2, some (.dat (tI l)), e4, e5, e6] S := rfl
  have v : mVar 3 bs [e0, e1, e2, some (.dat (tI l)), e4, e5, e6] S = .ok (.dat (tI l)) S := rfl
  have hl := h.len
  have c1 : mCall F_rows_told (mCons (mVar 3) mNil) bs [e0, e1, e2, some (.dat (tI l)), e4, e5, e6] S = .ok (toldW (told l)) S := by
    rw [mCall_ok (mCons_ok v mNil_ok)]
    rw [ev_rows_told bs l S h.ok (by omega)]
  have c2 : mCall F__law_read (mCons (mVar 3) mNil) bs [e0, e1, e2, some (.dat (tI l)), e4, e5, e6] S = .ok (toldW (told l)) S := by
    rw [mCall_ok (mCons_ok v mNil_ok)]
    rw [ev_law_read bs l S (by omega)]
  rw [t]
  unfold rB5
  rw [if_no (mB_ok (mBin_ok c1 c2 (ne_told bs _ S)))]
  rfl
theorem step7 {d : PyData} : tBody (tName 6) rB7 (.dat d) bs [e0, e1, e2, e3, e4, e5, e6] S = .nx [e0, e1, e2, e3, e4, e5, some (.dat d)] S := by
  have t : tBody (tName 6) rB7 (.dat d) bs [e0, e1, e2, e3, e4, e5, e6] S = rB7 bs [e0, e1, e2, e3, e4, e5, some (.dat d)] S := rfl
  have v : mVar 6 bs [e0, e1, e2, e3, e4, e5, some (.dat d)] S = .ok (.dat d) S := rfl
  have c1 : mCall F_is_key (mCons (mVar 6) mNil) bs [e0, e1, e2, e3, e4, e5, some (.dat d)] S = .ok (.bl (isKeyN 3 d)) S := by
    rw [mCall_ok (mCons_ok v mNil_ok)]
    rw [ev_is_key]
  have c2 : mCall F_is_row_value (mCons (mVar 6) mNil) bs [e0, e1, e2, e3, e4, e5, some (.dat d)] S = .ok (.bl (isKeyN 8 d)) S := by
    rw [mCall_ok (mCons_ok v mNil_ok)]
    rw [ev_is_row_value]
  have k3 : mCon (.int 3) bs [e0, e1, e2, e3, e4, e5, some (.dat d)] S = .ok (.int 3) S := rfl
  have k8 : mCon (.int 8) bs [e0, e1, e2, e3, e4, e5, some (.dat d)] S = .ok (.int 8) S := rfl
  have c3 : mCall F__law_is_cells (mCons (mVar 6) (mCons (mCon (.int 3)) mNil)) bs [e0, e1, e2, e3, e4, e5, some (.dat d)] S = .ok (.bl (isKeyN 3 d)) S := by
    rw [mCall_ok (mCons_ok v (mCons_ok k3 mNil_ok))]
    rw [ev_law_is_cells bs d 3 S (by omega)]
  have c4 : mCall F__law_is_cells (mCons (mVar 6) (mCons (mCon (.int 8)) mNil)) bs [e0, e1, e2, e3, e4, e5, some (.dat d)] S = .ok (.bl (isKeyN 8 d)) S := by
    rw [mCall_ok (mCons_ok v (mCons_ok k8 mNil_ok))]
    rw [ev_law_is_cells bs d 8 S (by omega)]
  obtain ⟨t', q⟩ := repr_bb bs (isKeyN 3 d) (isKeyN 8 d) S
  have l1 : mLst false (mCons (mCall F_is_key (mCons (mVar 6) mNil)) (mCons (mCall F_is_row_value (mCons (mVar 6) mNil)) mNil)) bs [e0, e1, e2, e3, e4, e5, some (.dat d)] S = .ok (.dat (.list [.bool (isKeyN 3 d), .bool (isKeyN 8 d)])) S := mLst_ok (mCons_ok c1 (mCons_ok c2 mNil_ok)) (by simp)
  have l2 : mLst false (mCons (mCall F__law_is_cells (mCons (mVar 6) (mCons (mCon (.int 3)) mNil))) (mCons (mCall F__law_is_cells (mCons (mVar 6) (mCons (mCon (.int 8)) mNil))) mNil)) bs [e0, e1, e2, e3, e4, e5, some (.dat d)] S = .ok (.dat (.list [.bool (isKeyN 3 d), .bool (isKeyN 8 d)])) S := mLst_ok (mCons_ok c3 (mCons_ok c4 mNil_ok)) (by simp)
  rw [t]
  unfold rB7
  rw [if_no (mB_ok (mBin_ok (mCB_ok (mCons_ok l1 mNil_ok) q) (mCB_ok (mCons_ok l2 mNil_ok) q) (ne_str bs t' S)))]
  rfl
theorem isi_no {d : PyData} (h : ∀ ds, d ≠ .tuple ds) (S : Store) : isiW "tuple" S (.dat d) = some (.bl false) := by
  cases d with
  | tuple ds => exact absurd rfl (h ds)
  | _ => simp [isiW, tyW, kt1, kt2, kt3, kt4, kt5, kt7]
theorem step6 {w : W} (h : Fine w) : ∃ x, tBody (tName 4) rB6 w bs [e0, e1, e2, e3, e4, e5, e6] S = .nx [e0, e1, e2, e3, some w, e5, x] S := by
  have t : tBody (tName 4) rB6 w bs [e0, e1, e2, e3, e4, e5, e6] S = rB6 bs [e0, e1, e2, e3, some w, e5, e6] S := rfl
  obtain ⟨b, it, hw, ja, jl, jit, jd⟩ : ∃ (b : Bool) (it : List PyData), w.weak = w ∧ F_are_rows bs [w] S = .ok (.bl b) S ∧ F__law_are_rows bs [w] S = .ok (.bl b) S ∧ mIt (mIf (mTru (mIsi "tuple" (mVar 4))) (mVar 4) (mTup mNil)) bs [e0, e1, e2, e3, some w, e5, e6] S = .ok (.items (it.map .dat)) S ∧ True := by
    rcases h with ⟨ds, hw, hl⟩ | ⟨d, rfl, hd⟩
    · refine ⟨areRows ds, ds, hw.weak, ev_are_rows hw bs S, ev_law_are_rows hw bs S hl, ?_, trivial⟩
      have v : mVar 4 bs [e0, e1, e2, e3, some w, e5, e6] S = .ok w S := by simp [mVar, hw.weak]
      have c : mIf (mTru (mIsi "tuple" (mVar 4))) (mVar 4) (mTup mNil) bs [e0, e1, e2, e3, some w, e5, e6] S = .ok w S := by
        unfold mIf mTru mIsi
        rw [v, Out.bind_ok, hw.isi, Out.bind_ok]
        show Out.bind (.ok true S) _ = _
        rw [Out.bind_ok, if_pos rfl]
        exact v
      unfold mIt
      rw [c, Out.bind_ok]
      simp only [hw.it]
    · refine ⟨false, [], rfl, ev_are_rows_no hd bs S, ev_law_are_rows_no hd bs S, ?_, trivial⟩
      have v : mVar 4 bs [e0, e1, e2, e3, some (.dat d), e5, e6] S = .ok (.dat d) S := rfl
      have c : mIf (mTru (mIsi "tuple" (mVar 4))) (mVar 4) (mTup mNil) bs [e0, e1, e2, e3, some (.dat d), e5, e6] S = .ok (.dat (.tuple [])) S := by
        unfold mIf mTru mIsi
        rw [v, Out.bind_ok, isi_no hd, Out.bind_ok]
        show Out.bind (.ok false S) _ = _
        rw [Out.bind_ok, if_neg (by simp)]
        rfl
      unfold mIt
      rw [c, Out.bind_ok]
      rfl
  have v : mVar 4 bs [e0, e1, e2, e3, some w, e5, e6] S = .ok w S := by simp [mVar, hw]
  have c1 : mCall F_are_rows (mCons (mVar 4) mNil) bs [e0, e1, e2, e3, some w, e5, e6] S = .ok (.bl b) S := by
    rw [mCall_ok (mCons_ok v mNil_ok)]
    rw [ja]
  have c2 : mCall F__law_are_rows (mCons (mVar 4) mNil) bs [e0, e1, e2, e3, some w, e5, e6] S = .ok (.bl b) S := by
    rw [mCall_ok (mCons_ok v mNil_ok)]
    rw [jl]
  obtain ⟨t', q⟩ := repr_b bs b S
  have s1 : sIf (mB (mBin (eqF true) (mCB (reprF) (mCons (mCall F_are_rows (mCons (mVar 4) mNil)) mNil)) (mCB (reprF) (mCons (mCall F__law_are_rows (mCons (mVar 4) mNil)) mNil)))) (sRet (mCon (.bool false))) sNil bs [e0, e1, e2, e3, some w, e5, e6] S = .nx [e0, e1, e2, e3, some w, e5, e6] S := by
    rw [if_no (mB_ok (mBin_ok (mCB_ok (mCons_ok c1 mNil_ok) q) (mCB_ok (mCons_ok c2 mNil_ok) q) (ne_str bs t' S)))]
    rfl
  obtain ⟨env', S', run, rfl, x, rfl⟩ := sFor_end (t := tName 6) (m := rB7) jit (fun k env T => T = S ∧ ∃ x, env = [e0, e1, e2, e3, some w, e5, x]) ⟨rfl, e6, rfl⟩ (fun k y env T hk ⟨hT, x, he⟩ => by
    subst hT he
    obtain ⟨d, _, rfl⟩ := List.mem_map.mp (List.mem_of_getElem? hk)
    exact ⟨_, _, step7, rfl, some (.dat d), rfl⟩)
  refine ⟨x, ?_⟩
  rw [t]
  unfold rB6
  rw [seq_ok s1, run]
end
end V

set_option maxHeartbeats 4000000
namespace V
open PySem L2 PyProof.Rows Rf

theorem sFor_cell {mi : M Iter} {c : Nat} {ws : List W} {t : TM} {m : MS} {bs : List Nat} {env : Rf.Env} {S S0 : Store} (hmi : mi bs env S = .ok (.cell c) S0) (I : Nat → Rf.Env → Store → Prop) (h0 : I 0 env S0) (hl : ws.length < 100000)
    (hS : ∀ k env S, I k env S → S[c]? = some (.lst ws)) (step : ∀ k w env S, ws[k]? = some w → I k env S → ∃ env' S', tBody t m w bs env S = .nx env' S' ∧ I (k + 1) env' S') : ∃ env' S', sFor mi t m bs env S = .nx env' S' ∧ I ws.length env' S' := by
  obtain ⟨e1, S1, h1, h2⟩ := forG_cell I hS step 100000 0 env S0 (by omega) (by omega) h0
  refine ⟨e1, S1, ?_, h2⟩
  rw [← h1]
  unfold sFor
  rw [hmi]
  rfl
theorem ev_right {bs : List Nat} {S : Store} {n : Nat} (hv : Vat S n) : ∃ S', F__law_right bs [.loc n] S = .ok (.bl true) S' ∧ Drawn n S S' := by
  obtain ⟨rs, S1, q1, okR, l12, nd, d1⟩ := ev_law_rows (bs := S.length :: bs) hv
  have hw := TupW.of_tw (rs.map rowD)
  have q2 := ev_own_cells hw (S.length :: bs) S1 okR.each okR.many
  have lenE := enc_len okR.each
  obtain ⟨ls, S2, q3, fl, ll, d2⟩ := ev_near_cells (bs := S.length :: bs) d1.vat (enc_ok okR.each) (by omega)
  have d12 := d1.trans d2
  obtain ⟨U, vs, q4, LU, lv, fv⟩ := ev_near_rows (bs := S.length :: bs) (S := S2) (e0 := .loc n) okR.each nd l12
  have e1 : sAsg (mCall F__law_rows (mCons (mVar 0) (mCons (mCon (.int 12)) mNil))) (tName 1) (S.length :: bs) [some (.loc n), none, none, none, none, none, none] S = .nx [some (.loc n), some (.kt (rs.map rowD)), none, none, none, none, none] S1 := by
    have v0 : mVar 0 (S.length :: bs) [some (.loc n), none, none, none, none, none, none] S = .ok (.loc n) S := rfl
    have k : mCon (.int 12) (S.length :: bs) [some (.loc n), none, none, none, none, none, none] S = .ok (.dat (.int 12)) S := rfl
    have c : mCall F__law_rows (mCons (mVar 0) (mCons (mCon (.int 12)) mNil)) (S.length :: bs) [some (.loc n), none, none, none, none, none, none] S = .ok (.kt (rs.map rowD)) S1 := by
      rw [mCall_ok (mCons_ok v0 (mCons_ok k mNil_ok))]
      rw [q1]
    exact asg_ok c
  have e2 : sAsg (mCall F__law_own_cells (mCons (mVar 1) mNil)) (tName 2) (S.length :: bs) [some (.loc n), some (.kt (rs.map rowD)), none, none, none, none, none] S1 = .nx [some (.loc n), some (.kt (rs.map rowD)), some (.dat (tI (enc rs))), none, none, none, none] S1 := by
    have v1 : mVar 1 (S.length :: bs) [some (.loc n), some (.kt (rs.map rowD)), none, none, none, none, none] S1 = .ok (.tw ((rs.map rowD).map .dat)) S1 := rfl
    have c : mCall F__law_own_cells (mCons (mVar 1) mNil) (S.length :: bs) [some (.loc n), some (.kt (rs.map rowD)), none, none, none, none, none] S1 = .ok (.dat (tI (enc rs))) S1 := by
      rw [mCall_ok (mCons_ok v1 mNil_ok)]
      rw [q2]
    exact asg_ok c
  have v1 : mVar 1 (S.length :: bs) [some (.loc n), some (.kt (rs.map rowD)), some (.dat (tI (enc rs))), none, none, none, none] S1 = .ok (.tw ((rs.map rowD).map .dat)) S1 := rfl
  have v2 : mVar 2 (S.length :: bs) [some (.loc n), some (.kt (rs.map rowD)), some (.dat (tI (enc rs))), none, none, none, none] S1 = .ok (.dat (tI (enc rs))) S1 := rfl
  have e3 : sIf (mOr (mB (mBin (eqF true) (mCall F_rows_cells (mCons (mVar 1) mNil)) (mVar 2))) (mOr (mB (mBin (eqF true) (mCall F_rows_told (mCons (mVar 2) mNil)) (mVar 1))) (mB (mBin (eqF true) (mCall F__law_read (mCons (mVar 2) mNil)) (mVar 1))))) (sRet (mCon (.bool false))) sNil (S.length :: bs) [some (.loc n), some (.kt (rs.map rowD)), some (.dat (tI (enc rs))), none, none, none, none] S1 = .nx [some (.loc n), some (.kt (rs.map rowD)), some (.dat (tI (enc rs))), none, none, none, none] S1 := by
    have c1 : mCall F_rows_cells (mCons (mVar 1) mNil) (S.length :: bs) [some (.loc n), some (.kt (rs.map rowD)), some (.dat (tI (enc rs))), none, none, none, none] S1 = .ok (.dat (tI (enc rs))) S1 := by
      rw [mCall_ok (mCons_ok v1 mNil_ok)]
      rw [ev_rows_cells hw (S.length :: bs) S1 okR]
    have te := told_enc okR.each okR.asc
    have c2 : mCall F_rows_told (mCons (mVar 2) mNil) (S.length :: bs) [some (.loc n), some (.kt (rs.map rowD)), some (.dat (tI (enc rs))), none, none, none, none] S1 = .ok (.dat (.tuple (rs.map rowD))) S1 := by
      rw [mCall_ok (mCons_ok v2 mNil_ok)]
      rw [ev_rows_told (S.length :: bs) (enc rs) S1 (enc_ok okR.each) (by omega), te]
      rfl
    have c3 : mCall F__law_read (mCons (mVar 2) mNil) (S.length :: bs) [some (.loc n), some (.kt (rs.map rowD)), some (.dat (tI (enc rs))), none, none, none, none] S1 = .ok (.dat (.tuple (rs.map rowD))) S1 := by
      rw [mCall_ok (mCons_ok v2 mNil_ok)]
      rw [ev_law_read (S.length :: bs) (enc rs) S1 (by omega), te]
      rfl
    have ne := ne_same (plain_rs rs).1 (plain_rs rs).2 (S.length :: bs) (S := S1) (view_t (.tuple (rs.map rowD)) S1) (view_tw (rs.map rowD) S1)
    rw [if_no (or_no (mB_ok (mBin_ok c1 v2 (ne_t (S.length :: bs) (enc rs) S1))) (or_no (mB_ok (mBin_ok c2 v1 ne)) (mB_ok (mBin_ok c3 v1 ne))))]
    rfl
  have i4 : mIt (mVar 1) (S.length :: bs) [some (.loc n), some (.kt (rs.map rowD)), some (.dat (tI (enc rs))), none, none, none, none] S1 = .ok (.items ((rs.map rowD).map .dat)) S1 := rfl
  obtain ⟨env4, T4, run4, rfl, x4, x5, rfl⟩ := sFor_end (t := tTup 2 (tCons (tName 5) (tCons (tName 4) tNil))) (m := rB4) i4 (fun k env T => T = S1 ∧ ∃ x4 x5, env = [some (.loc n), some (.kt (rs.map rowD)), some (.dat (tI (enc rs))), none, x4, x5, none]) ⟨rfl, none, none, rfl⟩ (fun k y env T hk ⟨hT, x4, x5, he⟩ => by
    subst hT he
    obtain ⟨d, hd, rfl⟩ := List.mem_map.mp (List.mem_of_getElem? hk)
    obtain ⟨r, hr, rfl⟩ := List.mem_map.mp hd
    exact ⟨_, _, step4 (okR.each r hr), rfl, some (.dat (tI r.2)), some (.dat (tI r.1)), rfl⟩)
  have i5 : mIt (mCall F__law_near_cells (mCons (mVar 0) (mCons (mVar 2) mNil))) (S.length :: bs) [some (.loc n), some (.kt (rs.map rowD)), some (.dat (tI (enc rs))), none, x4, x5, none] T4 = .ok (.items ((ls.map tI).map .dat)) S2 := by
    have v0 : mVar 0 (S.length :: bs) [some (.loc n), some (.kt (rs.map rowD)), some (.dat (tI (enc rs))), none, x4, x5, none] T4 = .ok (.loc n) T4 := rfl
    have v2 : mVar 2 (S.length :: bs) [some (.loc n), some (.kt (rs.map rowD)), some (.dat (tI (enc rs))), none, x4, x5, none] T4 = .ok (.dat (tI (enc rs))) T4 := rfl
    have c : mCall F__law_near_cells (mCons (mVar 0) (mCons (mVar 2) mNil)) (S.length :: bs) [some (.loc n), some (.kt (rs.map rowD)), some (.dat (tI (enc rs))), none, x4, x5, none] T4 = .ok (.dat (.list (ls.map tI))) S2 := by
      rw [mCall_ok (mCons_ok v0 (mCons_ok v2 mNil_ok))]
      rw [q3]
    unfold mIt
    rw [c, Out.bind_ok]
    rfl
  obtain ⟨env5, T5, run5, rfl, x3, rfl⟩ := sFor_end (t := tName 3) (m := rB5) i5 (fun k env T => T = S2 ∧ ∃ x3, env = [some (.loc n), some (.kt (rs.map rowD)), some (.dat (tI (enc rs))), x3, x4, x5, none]) ⟨rfl, none, rfl⟩ (fun k y env T hk ⟨hT, x3, he⟩ => by
    subst hT he
    obtain ⟨d, hd, rfl⟩ := List.mem_map.mp (List.mem_of_getElem? hk)
    obtain ⟨l, hl, rfl⟩ := List.mem_map.mp hd
    exact ⟨_, _, step5 (fl l hl), rfl, some (.dat (tI l)), rfl⟩)
  have i6 : mIt (mCall F__law_near_rows (mCons (mVar 0) (mCons (mVarK 1) mNil))) (S.length :: bs) [some (.loc n), some (.kt (rs.map rowD)), some (.dat (tI (enc rs))), x3, x4, x5, none] T5 = .ok (.cell T5.length) U := by
    have v0 : mVar 0 (S.length :: bs) [some (.loc n), some (.kt (rs.map rowD)), some (.dat (tI (enc rs))), x3, x4, x5, none] T5 = .ok (.loc n) T5 := rfl
    have vk : mVarK 1 (S.length :: bs) [some (.loc n), some (.kt (rs.map rowD)), some (.dat (tI (enc rs))), x3, x4, x5, none] T5 = .ok (.kt (rs.map rowD)) T5 := rfl
    have c : mCall F__law_near_rows (mCons (mVar 0) (mCons (mVarK 1) mNil)) (S.length :: bs) [some (.loc n), some (.kt (rs.map rowD)), some (.dat (tI (enc rs))), x3, x4, x5, none] T5 = .ok (.loc T5.length) U := by
      rw [mCall_ok (mCons_ok v0 (mCons_ok vk mNil_ok))]
      rw [q4]
    have ia : iterA U (.loc T5.length) = some (.cell T5.length) := by simp [iterA, iterT, tupOf, iterL, LU.at_]
    unfold mIt
    rw [c, Out.bind_ok]
    simp only [ia]
  obtain ⟨env6, T6, run6, rfl, y4, y6, rfl⟩ := sFor_cell (t := tName 4) (m := rB6) (ws := vs) i6 (fun k env T => T = U ∧ ∃ y4 y6, env = [some (.loc n), some (.kt (rs.map rowD)), some (.dat (tI (enc rs))), x3, y4, x5, y6]) ⟨rfl, x4, none, rfl⟩ (by omega) (fun k env T h => by rw [h.1]; exact LU.at_) (fun k y env T hk ⟨hT, y4, y6, he⟩ => by
    subst hT he
    obtain ⟨x, q⟩ := step6 (bs := S.length :: bs) (e0 := some (.loc n)) (e1 := some (.kt (rs.map rowD))) (e2 := some (.dat (tI (enc rs)))) (e3 := x3) (e4 := y4) (e5 := x5) (e6 := y6) (S := T) (fv y (List.mem_of_getElem? hk))
    exact ⟨_, _, q, rfl, some y, x, rfl⟩)
  have body : m__law_right = sSeq (sAsg (mCall F__law_rows (mCons (mVar 0) (mCons (mCon (.int 12)) mNil))) (tName 1)) (sSeq (sAsg (mCall F__law_own_cells (mCons (mVar 1) mNil)) (tName 2)) (sSeq (sIf (mOr (mB (mBin (eqF true) (mCall F_rows_cells (mCons (mVar 1) mNil)) (mVar 2))) (mOr (mB (mBin (eqF true) (mCall F_rows_told (mCons (mVar 2) mNil)) (mVar 1))) (mB (mBin (eqF true) (mCall F__law_read (mCons (mVar 2) mNil)) (mVar 1))))) (sRet (mCon (.bool false))) sNil)
    (sSeq (sFor (mIt (mVar 1)) (tTup 2 (tCons (tName 5) (tCons (tName 4) tNil))) rB4) (sSeq (sFor (mIt (mCall F__law_near_cells (mCons (mVar 0) (mCons (mVar 2) mNil)))) (tName 3) rB5) (sSeq (sFor (mIt (mCall F__law_near_rows (mCons (mVar 0) (mCons (mVarK 1) mNil)))) (tName 4) rB6) (sRet (mCon (.bool true)))))))) := rfl
  have lenT : T5.length = S.length := d12.len
  have hU := LU.lt
  have hn := hv.lt
  refine ⟨T6.take S.length, ?_, ⟨by rw [List.length_take]; omega, ?_, fun m hm => ?_⟩⟩
  · unfold F__law_right
    rw [fnM_eq (by rfl)]
    have se : startE 7 [.loc n] = [some (.loc n), none, none, none, none, none, none] := rfl
    rw [se, body, seq_ok e1, seq_ok e2, seq_ok e3, seq_ok run4, seq_ok run5, seq_ok run6]
    show popR S.length (.ok (.bl true) T6) = _
    rw [popR_ok rfl]
  · obtain ⟨a, b, c, e⟩ := d12.vat
    exact ⟨a, b, c, by rw [List.getElem?_take_of_lt hn, LU.low n (by omega)]; exact e⟩
  · by_cases hm2 : m < S.length
    · rw [List.getElem?_take_of_lt hm2, LU.low m (by omega), d12.rest m hm]
    · rw [List.getElem?_eq_none (by rw [List.length_take]; omega), List.getElem?_eq_none (by omega)]
end V

set_option maxHeartbeats 4000000
namespace V
open PySem L2 PyProof.Rows Rf

def scriptW (ns : List Int) : W := .lw (ns.map fun n => .dat (.int n))
theorem pow_i (bs : List Nat) (i j : Int) (S : Store) (h : 0 ≤ j ∧ (i.natAbs.log2 + 1) * j.toNat ≤ 100000000) : powF bs (.int i) (.int j) S = some (.int (i ^ j.toNat), S) := by
  show ((if 0 ≤ j ∧ (i.natAbs.log2 + 1) * j.toNat ≤ 100000000 then some (i ^ j.toNat) else none) : Option Int).map _ = _
  rw [if_pos h]; rfl
theorem mul_ok (k : Bool) (bs : List Nat) (i j : Int) (S : Store) (h : mulOk i j = true) : mulF k bs (.int i) (.int j) S = some (.int (i * j), S) := by
  show (if mulOk i j then _ else _) = _
  rw [h]; rfl
theorem big_mul (bs : List Nat) (S : Store) : mulF false bs (.int ((10 : Int) ^ (55 : Int).toNat)) (.int ((10 : Int) ^ (58 : Int).toNat)) S = some (.int ((10 : Int) ^ (55 : Int).toNat * (10 : Int) ^ (58 : Int).toNat), S) := by
  exact mul_ok _ _ _ _ _ (by decide +kernel)
theorem big_pos : (0 : Int) < (10 : Int) ^ (55 : Int).toNat * (10 : Int) ^ (58 : Int).toNat := by decide +kernel
theorem len_s (ns : List Int) (S : Store) : lenW S (scriptW ns) = some (.int ns.length) := by simp [lenW, seqOf, tupOf, lstOf, scriptW]
theorem weak_s (ns : List Int) : (scriptW ns).weak = scriptW ns := rfl
theorem ev_vat (bs : List Nat) (ns : List Int) (k : Nat) (S : Store) : ∃ S', F__law_vat bs [scriptW ns, .int k] S = .ok (.loc S.length) S' ∧ Vat S' S.length := by
  have se : startE 5 [scriptW ns, .int k] = [some (scriptW ns), some (.int k), none, none, none] := rfl
  have p55 := fun T => pow_i (S.length :: bs) 10 55 T (by decide +kernel)
  have p58 := fun T => pow_i (S.length :: bs) 10 58 T (by decide +kernel)
  have p16 := fun T => pow_i (S.length :: bs) 10 16 T (by decide +kernel)
  have bm := fun T => big_mul (S.length :: bs) T
  have m0 : ∀ (x : Int) (T : Store), modF (S.length :: bs) (.int x) (.int ((10 : Int) ^ (55 : Int).toNat * (10 : Int) ^ (58 : Int).toNat)) T = some (.int (x % ((10 : Int) ^ (55 : Int).toNat * (10 : Int) ^ (58 : Int).toNat)), T) := fun x T => mod_i _ _ _ _ big_pos
  have m1 : ∀ (x : Int) (T : Store), modF (S.length :: bs) (.int x) (.int 2305843009213693921) T = some (.int (x % 2305843009213693921), T) := fun x T => mod_i _ _ _ _ (by decide)
  have m2 : ∀ (x : Int) (T : Store), modF (S.length :: bs) (.int x) (.int 1152921504606846869) T = some (.int (x % 1152921504606846869), T) := fun x T => mod_i _ _ _ _ (by decide)
  have u1 : ∀ (x : Int) (T : Store), mulF false (S.length :: bs) (.int 173) (.int x) T = some (.int (173 * x), T) := fun x T => mul_l _ _ _ _ _ (by decide)
  have u2 : ∀ (x : Int) (T : Store), mulF false (S.length :: bs) (.int x) (.int 71) T = some (.int (x * 71), T) := fun x T => mul_r _ _ _ _ _ (by decide)
  have u3 : ∀ (x : Int) (T : Store), mulF false (S.length :: bs) (.int 1103) (.int x) T = some (.int (1103 * x), T) := fun x T => mul_l _ _ _ _ _ (by decide)
  have u4 : ∀ (x : Int) (T : Store), mulF false (S.length :: bs) (.int 37) (.int x) T = some (.int (37 * x), T) := fun x T => mul_l _ _ _ _ _ (by decide)
  have vs : ∀ e1 e2 e3 e4 T, mVar 0 (S.length :: bs) [some (scriptW ns), e1, e2, e3, e4] T = .ok (scriptW ns) T := fun _ _ _ _ _ => rfl
  obtain ⟨cell, s1⟩ : ∃ cell : Int, sAsg (mIf (mB (mBin (ordF .lt) (mVar 1) (mCB (un lenW) (mCons (mVar 0) mNil)))) (mCB (un intW) (mCons (mBin ixF (mVar 0) (mVar 1)) mNil)) (mBin (addF false) (mBin (mulF false) (mCon (.int 173)) (mVar 1)) (mCon (.int 59)))) (tName 2) (S.length :: bs) [some (scriptW ns), some (.int k), none, none, none] S = .nx [some (scriptW ns), some (.int k), some (.int cell), none, none] S := by
    have hl : mCB (un lenW) (mCons (mVar 0) mNil) (S.length :: bs) [some (scriptW ns), some (.int k), none, none, none] S = .ok (.int ns.length) S := mCB_ok (mCons_ok (vs _ _ _ _ _) mNil_ok) (by simp only [un, len_s, Option.map_some])
    have v1 : mVar 1 (S.length :: bs) [some (scriptW ns), some (.int k), none, none, none] S = .ok (.int k) S := rfl
    have cnd : mB (mBin (ordF .lt) (mVar 1) (mCB (un lenW) (mCons (mVar 0) mNil))) (S.length :: bs) [some (scriptW ns), some (.int k), none, none, none] S = .ok (decide ((k : Int) < ns.length)) S := mB_ok (mBin_ok v1 hl rfl)
    by_cases h : (k : Int) < ns.length
    · have hk : k < ns.length := by omega
      refine ⟨ns[k], asg_ok ?_⟩
      have ix : ixF (S.length :: bs) (scriptW ns) (.int k) S = some (.int ns[k], S) := by
        show (atI (ns.map fun n => W.dat (PyData.int n)) (k : Int)).map (·, S) = _
        rw [at_int (x := W.int ns[k]) (by rw [List.getElem?_map, List.getElem?_eq_getElem hk]; rfl)]
        rfl
      unfold mIf
      rw [cnd, Out.bind_ok, decide_eq_true h, if_pos rfl]
      exact mCB_ok (mCons_ok (mBin_ok (vs _ _ _ _ _) v1 ix) mNil_ok) rfl
    · refine ⟨173 * k + 59, asg_ok ?_⟩
      unfold mIf
      rw [cnd, Out.bind_ok, decide_eq_false h, if_neg (by simp)]
      exact mBin_ok (mBin_ok rfl v1 (u1 _ _)) rfl rfl
  obtain ⟨great, s2⟩ : ∃ great : Int, sAsg (mBin modF (mCB (un intW) (mCons (mCB (un absW) (mCons (mVar 2) mNil)) mNil)) (mBin (mulF false) (mBin powF (mCon (.int 10)) (mCon (.int 55))) (mBin powF (mCon (.int 10)) (mCon (.int 58))))) (tName 3) (S.length :: bs) [some (scriptW ns), some (.int k), some (.int cell), none, none] S = .nx [some (scriptW ns), some (.int k), some (.int cell), some (.int great), none] S := by
    have a1 : mCB (un intW) (mCons (mCB (un absW) (mCons (mVar 2) mNil)) mNil) (S.length :: bs) [some (scriptW ns), some (.int k), some (.int cell), none, none] S = .ok (.int (if cell < 0 then -cell else cell)) S := mCB_ok (mCons_ok (mCB_ok (mCons_ok (show mVar 2 (S.length :: bs) [some (scriptW ns), some (.int k), some (.int cell), none, none] S = .ok (.int cell) S from rfl) mNil_ok) rfl) mNil_ok) rfl
    have a2 : mBin (mulF false) (mBin powF (mCon (.int 10)) (mCon (.int 55))) (mBin powF (mCon (.int 10)) (mCon (.int 58))) (S.length :: bs) [some (scriptW ns), some (.int k), some (.int cell), none, none] S = .ok (.int ((10 : Int) ^ (55 : Int).toNat * (10 : Int) ^ (58 : Int).toNat)) S :=
      mBin_ok (mBin_ok rfl rfl (p55 S)) (mBin_ok rfl rfl (p58 S)) (bm S)
    exact ⟨_, asg_ok (mBin_ok a1 a2 (m0 _ S))⟩
  obtain ⟨mixed, s3⟩ : ∃ mixed : Int, sAsg (mBin (addF false) (mBin (addF false) (mBin (addF false) (mBin (mulF false) (mBin modF (mVar 3) (mCon (.int 2305843009213693921))) (mCon (.int 71))) (mBin (mulF false) (mCon (.int 1103)) (mVar 1))) (mBin (mulF false) (mCon (.int 37)) (mCB (un intW) (mCons (mBin (ordF .lt) (mVar 2) (mCon (.int 0))) mNil)))) (mCon (.int 23))) (tName 4) (S.length :: bs) [some (scriptW ns), some (.int k), some (.int cell), some (.int great), none] S = .nx [some (scriptW ns), some (.int k), some (.int cell), some (.int great), some (.int mixed)] S := by
    have b1 := mBin_ok (mBin_ok (show mVar 3 (S.length :: bs) [some (scriptW ns), some (.int k), some (.int cell), some (.int great), none] S = .ok (.int great) S from rfl) (show mCon (.int 2305843009213693921) (S.length :: bs) [some (scriptW ns), some (.int k), some (.int cell), some (.int great), none] S = .ok (.int 2305843009213693921) S from rfl) (m1 great S)) (show mCon (.int 71) (S.length :: bs) [some (scriptW ns), some (.int k), some (.int cell), some (.int great), none] S = .ok (.int 71) S from rfl) (u2 _ S)
    have b2 := mBin_ok (show mCon (.int 1103) (S.length :: bs) [some (scriptW ns), some (.int k), some (.int cell), some (.int great), none] S = .ok (.int 1103) S from rfl) (show mVar 1 (S.length :: bs) [some (scriptW ns), some (.int k), some (.int cell), some (.int great), none] S = .ok (.int k) S from rfl) (u3 k S)
    have b3 := mCB_ok (f := un intW) (mCons_ok (mBin_ok (f := ordF .lt) (show mVar 2 (S.length :: bs) [some (scriptW ns), some (.int k), some (.int cell), some (.int great), none] S = .ok (.int cell) S from rfl) (show mCon (.int 0) (S.length :: bs) [some (scriptW ns), some (.int k), some (.int cell), some (.int great), none] S = .ok (.int 0) S from rfl) (show ordF .lt (S.length :: bs) (.int cell) (.int 0) S = some (.bl (decide (cell < 0)), S) from rfl)) mNil_ok) (show un intW (S.length :: bs) [.bl (decide (cell < 0))] S = some (.int (if decide (cell < 0) = true then 1 else 0), S) from rfl)
    have b4 := mBin_ok (show mCon (.int 37) (S.length :: bs) [some (scriptW ns), some (.int k), some (.int cell), some (.int great), none] S = .ok (.int 37) S from rfl) b3 (u4 _ S)
    exact ⟨_, asg_ok (mBin_ok (mBin_ok (mBin_ok b1 b2 (add_int false _ _ _ S)) b4 (add_int false _ _ _ S)) (show mCon (.int 23) (S.length :: bs) [some (scriptW ns), some (.int k), some (.int cell), some (.int great), none] S = .ok (.int 23) S from rfl) (add_int false _ _ _ S))⟩
  obtain ⟨a, b, s4⟩ : ∃ a b : Int, mLst true (mCons (mCB (max2F) (mCons (mCon (.int 0)) (mCons (mBin subF (mVar 3) (mBin powF (mCon (.int 10)) (mCon (.int 16)))) mNil))) (mCons (mBin modF (mCB (un intW) (mCons (mVar 4) mNil)) (mCon (.int 1152921504606846869))) (mCons (mCon (.int 0)) mNil))) (S.length :: bs) [some (scriptW ns), some (.int k), some (.int cell), some (.int great), some (.int mixed)] S = .ok (.loc S.length) (S ++ [.lst [.int a, .int b, .int 0]]) := by
    have c1 := mBin_ok (f := subF) (show mVar 3 (S.length :: bs) [some (scriptW ns), some (.int k), some (.int cell), some (.int great), some (.int mixed)] S = .ok (.int great) S from rfl) (mBin_ok (show mCon (.int 10) (S.length :: bs) [some (scriptW ns), some (.int k), some (.int cell), some (.int great), some (.int mixed)] S = .ok (.int 10) S from rfl) (show mCon (.int 16) (S.length :: bs) [some (scriptW ns), some (.int k), some (.int cell), some (.int great), some (.int mixed)] S = .ok (.int 16) S from rfl) (p16 S)) (sub_i _ _ _ S)
    have c2 := mCB_ok (f := max2F) (mCons_ok (show mCon (.int 0) (S.length :: bs) [some (scriptW ns), some (.int k), some (.int cell), some (.int great), some (.int mixed)] S = .ok (.int 0) S from rfl) (mCons_ok c1 mNil_ok)) rfl
    have c3 := mBin_ok (f := modF) (mCB_ok (f := un intW) (mCons_ok (show mVar 4 (S.length :: bs) [some (scriptW ns), some (.int k), some (.int cell), some (.int great), some (.int mixed)] S = .ok (.int mixed) S from rfl) mNil_ok) (show un intW (S.length :: bs) [.int mixed] S = some (.int mixed, S) from rfl)) (show mCon (.int 1152921504606846869) (S.length :: bs) [some (scriptW ns), some (.int k), some (.int cell), some (.int great), some (.int mixed)] S = .ok (.int 1152921504606846869) S from rfl) (m2 mixed S)
    have c4 := mCons_ok c2 (mCons_ok c3 (mCons_ok (show mCon (.int 0) (S.length :: bs) [some (scriptW ns), some (.int k), some (.int cell), some (.int great), some (.int mixed)] S = .ok (.int 0) S from rfl) mNil_ok))
    exact ⟨_, _, mLst_ok c4 (by simp)⟩
  refine ⟨S ++ [.lst [.int a, .int b, .int 0]], ?_, a, b, 0, st_get _ _⟩
  unfold F__law_vat
  rw [fnM_eq (by rfl), se]
  unfold m__law_vat
  rw [seq_ok s1, seq_ok s2, seq_ok s3, sRet_ok s4]
  show popR S.length (.ok (.loc S.length) _) = _
  simp [popR, W.und]
end V

set_option maxHeartbeats 4000000
namespace V
open PySem L2 PyProof.Rows Rf

abbrev lBody : MS := sSeq (sAsg (mCall F__law_vat (mCons (mVar 0) (mCons (mVar 1) mNil))) (tName 4)) (sIf (mOr (mNot (mTru (mCall F__law_right (mCons (mVar 4) mNil)))) (mNot (mTru (mCall F__law_right (mCons (mVar 4) mNil))))) (sRet (mCon (.bool false))) sNil)
theorem l_step {bs : List Nat} {S : Store} {ns : List Int} {k : Nat} {e1 e2 e3 e4 e5 : Option W} : ∃ n S', tBody (tName 1) lBody (.int k) bs [some (scriptW ns), e1, e2, e3, e4, e5] S = .nx [some (scriptW ns), some (.int k), e2, e3, some (.loc n), e5] S' := by
  obtain ⟨S1, q1, v1⟩ := ev_vat bs ns k S
  obtain ⟨S2, q2, d2⟩ := ev_right (bs := bs) v1
  obtain ⟨S3, q3, d3⟩ := ev_right (bs := bs) d2.vat
  have t : tBody (tName 1) lBody (.int k) bs [some (scriptW ns), e1, e2, e3, e4, e5] S = lBody bs [some (scriptW ns), some (.int k), e2, e3, e4, e5] S := rfl
  have s1 : sAsg (mCall F__law_vat (mCons (mVar 0) (mCons (mVar 1) mNil))) (tName 4) bs [some (scriptW ns), some (.int k), e2, e3, e4, e5] S = .nx [some (scriptW ns), some (.int k), e2, e3, some (.loc S.length), e5] S1 := by
    have v0 : mVar 0 bs [some (scriptW ns), some (.int k), e2, e3, e4, e5] S = .ok (scriptW ns) S := rfl
    have vk : mVar 1 bs [some (scriptW ns), some (.int k), e2, e3, e4, e5] S = .ok (.int k) S := rfl
    have c : mCall F__law_vat (mCons (mVar 0) (mCons (mVar 1) mNil)) bs [some (scriptW ns), some (.int k), e2, e3, e4, e5] S = .ok (.loc S.length) S1 := by
      rw [mCall_ok (mCons_ok v0 (mCons_ok vk mNil_ok))]
      rw [q1]
    exact asg_ok c
  have r : ∀ T T', F__law_right bs [.loc S.length] T = .ok (.bl true) T' → mNot (mTru (mCall F__law_right (mCons (mVar 4) mNil))) bs [some (scriptW ns), some (.int k), e2, e3, some (.loc S.length), e5] T = .ok false T' := fun T T' q => by
    have v4 : mVar 4 bs [some (scriptW ns), some (.int k), e2, e3, some (.loc S.length), e5] T = .ok (.loc S.length) T := rfl
    have c : mCall F__law_right (mCons (mVar 4) mNil) bs [some (scriptW ns), some (.int k), e2, e3, some (.loc S.length), e5] T = .ok (.bl true) T' := by
      rw [mCall_ok (mCons_ok v4 mNil_ok)]
      rw [q]
    unfold mNot mTru
    rw [c, Out.bind_ok]
    show Out.bind (.ok true T') _ = _
    rw [Out.bind_ok]
    rfl
  refine ⟨S.length, S3, ?_⟩
  rw [t]
  unfold lBody
  rw [seq_ok s1, if_no (or_no (r _ _ q2) (r _ _ q3))]
  rfl
abbrev toldM : M (List W) := (mCons (mCall F_row_cells (mCons (mTup (mCons (mCon (.int 2)) (mCons (mCon (.int 0)) (mCons (mCon (.int 7)) mNil)))) (mCons (mTup (mCons (mCon (.int 16)) mNil)) mNil))) (mCons (mCall F_rows_told (mCons (mTup (mCons (mCon (.int 1)) (mCons (mCon (.int 5)) (mCons (mCon (.int 1)) (mCons (mCon (.int 6)) (mCons (mCon (.int 2)) (mCons (mCon (.int 5)) (mCons (mCon (.int 0)) (mCons (mCon (.int 1)) (mCons (mCon (.int 6)) mNil)))))))))) mNil)) (mCons (mCall F_rows_told (mCons (mBin (mulF false) (mTup (mCons (mCon (.int 1)) (mCons (mCon (.int 5)) (mCons (mCon (.int 1)) (mCons (mCon (.int 6)) mNil))))) (mCon (.int 2))) mNil)) (mCons (mCall F_rows_told (mCons (mTup mNil) mNil)) mNil))))
def dueD : PyData := .list [tI [3, 2, 0, 7, 1, 16], .tuple [rowD ([5], [6]), rowD ([5, 0], [6])], .none, .tuple []]
theorem told_ok (bs : List Nat) (env : Rf.Env) (S : Store) : mLst false toldM bs env S = .ok (.dat dueD) S := by
  have t1 : mTup (mCons (mCon (.int 2)) (mCons (mCon (.int 0)) (mCons (mCon (.int 7)) mNil))) bs env S = .ok (.dat (tI [2, 0, 7])) S := rfl
  have t2 : mTup (mCons (mCon (.int 16)) mNil) bs env S = .ok (.dat (tI [16])) S := rfl
  have ok : RowOk ([2, 0, 7], [16]) := ⟨by simp, by simp, by simp, by simp, fun c hc => by
    simp only [List.mem_cons, List.not_mem_nil, or_false] at hc
    omega, fun c hc => by
    simp only [List.mem_cons, List.not_mem_nil, or_false] at hc
    omega⟩
  have c1 : mCall F_row_cells (mCons (mTup (mCons (mCon (.int 2)) (mCons (mCon (.int 0)) (mCons (mCon (.int 7)) mNil)))) (mCons (mTup (mCons (mCon (.int 16)) mNil)) mNil)) bs env S = .ok (.dat (tI [3, 2, 0, 7, 1, 16])) S := by
    rw [mCall_ok (mCons_ok t1 (mCons_ok t2 mNil_ok))]
    have := ev_row_cells bs ok S
    rw [this]
    rfl
  have t3 : mTup (mCons (mCon (.int 1)) (mCons (mCon (.int 5)) (mCons (mCon (.int 1)) (mCons (mCon (.int 6)) (mCons (mCon (.int 2)) (mCons (mCon (.int 5)) (mCons (mCon (.int 0)) (mCons (mCon (.int 1)) (mCons (mCon (.int 6)) mNil))))))))) bs env S = .ok (.dat (tI [1, 5, 1, 6, 2, 5, 0, 1, 6])) S := rfl
  have t4 : mBin (mulF false) (mTup (mCons (mCon (.int 1)) (mCons (mCon (.int 5)) (mCons (mCon (.int 1)) (mCons (mCon (.int 6)) mNil))))) (mCon (.int 2)) bs env S = .ok (.dat (tI [1, 5, 1, 6, 1, 5, 1, 6])) S := rfl
  have t5 : mTup mNil bs env S = .ok (.dat (tI [])) S := rfl
  have f1 : told [1, 5, 1, 6, 2, 5, 0, 1, 6] = some [([5], [6]), ([5, 0], [6])] := by decide +kernel
  have f2 : told [1, 5, 1, 6, 1, 5, 1, 6] = none := by decide +kernel
  have f3 : told [] = some [] := by decide +kernel
  have small : ∀ l : List Int, (∀ c ∈ l, 0 ≤ c ∧ c ≤ 100) → ∀ c ∈ l, 0 ≤ c ∧ c ≤ 999999999999999999 := fun l h c hc => by
    have := h c hc
    omega
  have c3 : mCall F_rows_told (mCons (mTup (mCons (mCon (.int 1)) (mCons (mCon (.int 5)) (mCons (mCon (.int 1)) (mCons (mCon (.int 6)) (mCons (mCon (.int 2)) (mCons (mCon (.int 5)) (mCons (mCon (.int 0)) (mCons (mCon (.int 1)) (mCons (mCon (.int 6)) mNil)))))))))) mNil) bs env S = .ok (.dat (.tuple [rowD ([5], [6]), rowD ([5, 0], [6])])) S := by
    rw [mCall_ok (mCons_ok t3 mNil_ok)]
    rw [ev_rows_told bs _ S (small _ (by decide +kernel)) (by simp), f1]
    rfl
  have c4 : mCall F_rows_told (mCons (mBin (mulF false) (mTup (mCons (mCon (.int 1)) (mCons (mCon (.int 5)) (mCons (mCon (.int 1)) (mCons (mCon (.int 6)) mNil))))) (mCon (.int 2))) mNil) bs env S = .ok .non S := by
    rw [mCall_ok (mCons_ok t4 mNil_ok)]
    rw [ev_rows_told bs _ S (small _ (by decide +kernel)) (by simp), f2]
    rfl
  have c5 : mCall F_rows_told (mCons (mTup mNil) mNil) bs env S = .ok (.dat (.tuple [])) S := by
    rw [mCall_ok (mCons_ok t5 mNil_ok)]
    rw [ev_rows_told bs [] S (fun c hc => by simp at hc) (by simp), f3]
    rfl
  exact mLst_ok (mCons_ok c1 (mCons_ok c3 (mCons_ok c4 (mCons_ok c5 mNil_ok)))) (by simp)
abbrev dueM : M (List W) := (mCons (mTup (mCons (mCon (.int 3)) (mCons (mCon (.int 2)) (mCons (mCon (.int 0)) (mCons (mCon (.int 7)) (mCons (mCon (.int 1)) (mCons (mCon (.int 16)) mNil))))))) (mCons (mTup (mCons (mTup (mCons (mTup (mCons (mCon (.int 5)) mNil)) (mCons (mTup (mCons (mCon (.int 6)) mNil)) mNil))) (mCons (mTup (mCons (mTup (mCons (mCon (.int 5)) (mCons (mCon (.int 0)) mNil))) (mCons (mTup (mCons (mCon (.int 6)) mNil)) mNil))) mNil))) (mCons (mCon .none) (mCons (mTup mNil) mNil))))
abbrev keysM : M (List W) := (mCons (mTup mNil) (mCons (mTup (mCons (mCon (.int 1)) mNil)) (mCons (mTup (mCons (mCon (.int 1)) (mCons (mCon (.int 2)) (mCons (mCon (.int 3)) mNil)))) (mCons (mTup (mCons (mCon (.int 1)) (mCons (mCon (.int 2)) (mCons (mCon (.int 3)) (mCons (mCon (.int 4)) mNil))))) (mCons (mLst false (mCons (mCon (.int 1)) mNil)) (mCons (mTup (mCons (mCon (.bool true)) mNil)) (mCons (mTup (mCons (mBin powF (mCon (.int 10)) (mCon (.int 18))) mNil)) (mCons (mCon .none) mNil))))))))
def keysD2 : List PyData := [.tuple [], .tuple [.int 1], .tuple [.int 1, .int 2, .int 3], .tuple [.int 1, .int 2, .int 3, .int 4], .list [.int 1], .tuple [.bool true], .tuple [.int 1000000000000000000], .none]
abbrev boolsM : M (List W) := (mCons (mCon (.bool false)) (mCons (mCon (.bool true)) (mCons (mCon (.bool true)) (mCons (mCon (.bool false)) (mCons (mCon (.bool false)) (mCons (mCon (.bool false)) (mCons (mCon (.bool false)) (mCons (mCon (.bool false)) mNil))))))))
def boolsD : PyData := .list [.bool false, .bool true, .bool true, .bool false, .bool false, .bool false, .bool false, .bool false]
theorem right (ns : List Int) (hl : ns.length ≤ 63) (_ : ∀ z ∈ ns, Builtin.Int.intBits z ≤ 1048576) : ∃ S, F_law [] [.lw (ns.map fun n => .dat (.int n))] [] = .ok (.bl true) S := by
  have se : startE 6 [scriptW ns] = [some (scriptW ns), none, none, none, none, none] := rfl
  obtain ⟨m, hm, hmi⟩ : ∃ m : Int, (-100000000 ≤ m ∧ m ≤ 100000000) ∧ mCons (mCB (max2F) (mCons (mCon (.int 1)) (mCons (mCB (min2F) (mCons (mCon (.int 3)) (mCons (mCB (un lenW) (mCons (mVar 0) mNil)) mNil))) mNil))) mNil [0] [some (scriptW ns), none, none, none, none, none] [] = .ok [.int m] [] := by
    have v0 : mVar 0 [0] [some (scriptW ns), none, none, none, none, none] [] = .ok (scriptW ns) [] := rfl
    have l0 : mCB (un lenW) (mCons (mVar 0) mNil) [0] [some (scriptW ns), none, none, none, none, none] [] = .ok (.int ns.length) [] := mCB_ok (mCons_ok v0 mNil_ok) (by simp only [un, len_s, Option.map_some])
    have l1 := mCB_ok (f := min2F) (mCons_ok (show mCon (.int 3) [0] [some (scriptW ns), none, none, none, none, none] [] = .ok (.int 3) [] from rfl) (mCons_ok l0 mNil_ok)) (show min2F [0] [.int 3, .int ns.length] [] = some (.int (if (ns.length : Int) < 3 then (ns.length : Int) else 3), []) from rfl)
    have l2 := mCB_ok (f := max2F) (mCons_ok (show mCon (.int 1) [0] [some (scriptW ns), none, none, none, none, none] [] = .ok (.int 1) [] from rfl) (mCons_ok l1 mNil_ok)) (show max2F [0] [.int 1, .int (if (ns.length : Int) < 3 then (ns.length : Int) else 3)] [] = some (.int (if (if (ns.length : Int) < 3 then (ns.length : Int) else 3) > 1 then (if (ns.length : Int) < 3 then (ns.length : Int) else 3) else 1), []) from rfl)
    refine ⟨_, ?_, mCons_ok l2 mNil_ok⟩
    split <;> (try split) <;> omega
  have hr := rng1 hmi hm.1 hm.2
  obtain ⟨env', S', run, y1, y4, rfl⟩ := sFor_end (t := tName 1) (m := lBody) hr (fun k env T => ∃ y1 y4, env = [some (scriptW ns), y1, none, none, y4, none]) ⟨none, none, rfl⟩ (fun k w env T hk ⟨y1, y4, he⟩ => by
    subst he
    obtain ⟨i, _, rfl⟩ : ∃ i, i ∈ List.range (m - 0).toNat ∧ W.int (0 + ((i : Nat) : Int)) = w := List.mem_map.mp (List.mem_of_getElem? hk)
    have e : (0 : Int) + (i : Int) = ((i : Nat) : Int) := by omega
    rw [e]
    obtain ⟨n, T', q⟩ := l_step (bs := [0]) (S := T) (ns := ns) (k := i) (e1 := y1) (e2 := none) (e3 := none) (e4 := y4) (e5 := none)
    exact ⟨_, _, q, some (.int i), some (.loc n), rfl⟩)
  have s2 : sAsg (mLst false toldM) (tName 2) [0] [some (scriptW ns), y1, none, none, y4, none] S' = .nx [some (scriptW ns), y1, some (.dat dueD), none, y4, none] S' := asg_ok (told_ok _ _ _)
  have due : mLst false dueM [0] [some (scriptW ns), y1, some (.dat dueD), none, y4, none] S' = .ok (.dat dueD) S' := rfl
  have pd : dueD.plain = true := by decide +kernel
  have dd : dueD.depth ≤ 64 := by decide +kernel
  have s3 : sIf (mB (mBin (eqF true) (mVar 2) (mLst false dueM))) (sRet (mCon (.bool false))) sNil [0] [some (scriptW ns), y1, some (.dat dueD), none, y4, none] S' = .nx [some (scriptW ns), y1, some (.dat dueD), none, y4, none] S' := by
    rw [if_no (mB_ok (mBin_ok (show mVar 2 [0] [some (scriptW ns), y1, some (.dat dueD), none, y4, none] S' = .ok (.dat dueD) S' from rfl) due (ne_same pd dd [0] rfl rfl)))]
    rfl
  have s4 : sAsg (mLst false keysM) (tName 3) [0] [some (scriptW ns), y1, some (.dat dueD), none, y4, none] S' = .nx [some (scriptW ns), y1, some (.dat dueD), some (.dat (.list keysD2)), y4, none] S' := asg_ok rfl
  have i5 : mIt (mVar 3) [0] [some (scriptW ns), y1, some (.dat dueD), some (.dat (.list keysD2)), y4, none] S' = .ok (.items (keysD2.map .dat)) S' := rfl
  have comp := mComp_name (k := false) (i := 5) (vs := [5]) (e := mCall F_is_key (mCons (mVar 5) mNil)) i5 (fun w => match w with | .dat d => .bl (isKeyN 3 d) | w => w) (fun w hw => by
    obtain ⟨d, _, rfl⟩ := List.mem_map.mp hw
    have v : mVar 5 [0] ((wipeE [some (scriptW ns), y1, some (W.dat dueD), some (W.dat (.list keysD2)), y4, none] [5]).set 5 (some (.dat d))) S' = .ok (.dat d) S' := rfl
    rw [mCall_ok (mCons_ok v mNil_ok)]
    rw [ev_is_key]) (by decide)
  have ec : (keysD2.map W.dat).map (fun w => match w with | .dat d => W.bl (isKeyN 3 d) | w => w) = (keysD2.map fun d => PyData.bool (isKeyN 3 d)).map .dat := by
    rw [List.map_map, List.map_map]; rfl
  rw [ec] at comp
  simp only [newL_f, mkLst_dat] at comp
  have eb : PyData.list (keysD2.map fun d => PyData.bool (isKeyN 3 d)) = boolsD := by
    have : (keysD2.map fun d => isKeyN 3 d) = [false, true, true, false, false, false, false, false] := by decide +kernel
    have e2 : (keysD2.map fun d => PyData.bool (isKeyN 3 d)) = (keysD2.map fun d => isKeyN 3 d).map PyData.bool := by rw [List.map_map]; rfl
    rw [e2, this]; rfl
  rw [eb] at comp
  have bl : mLst false boolsM [0] [some (scriptW ns), y1, some (.dat dueD), some (.dat (.list keysD2)), y4, none] S' = .ok (.dat boolsD) S' := rfl
  have eqb : eqF false [0] (.dat boolsD) (.dat boolsD) S' = some (.bl true, S') := by
    have pb : boolsD.plain = true := by decide +kernel
    have db : boolsD.depth ≤ 64 := by decide +kernel
    unfold eqF
    simp only [view_t]
    rw [if_pos ⟨pb, pb, db⟩, PySem.SeqAt.eqv_refl_plain boolsD pb]
    rfl
  have s5 := sRet_ok (mBin_ok comp bl eqb)
  have body : m_law = sSeq (sFor (mRng1 (mCons (mCB (max2F) (mCons (mCon (.int 1)) (mCons (mCB (min2F) (mCons (mCon (.int 3)) (mCons (mCB (un lenW) (mCons (mVar 0) mNil)) mNil))) mNil))) mNil)) (tName 1) lBody) (sSeq (sAsg (mLst false toldM) (tName 2)) (sSeq (sIf (mB (mBin (eqF true) (mVar 2) (mLst false dueM))) (sRet (mCon (.bool false))) sNil) (sSeq (sAsg (mLst false keysM) (tName 3)) (sRet (mBin (eqF false) (mComp false (mIt (mVar 3)) [5] (tName 5) mYes (mCall F_is_key (mCons (mVar 5) mNil))) (mLst false boolsM)))))) := rfl
  refine ⟨S'.take 0, ?_⟩
  show F_law [] [scriptW ns] [] = _
  unfold F_law
  rw [fnM_eq (by rfl), se, body]
  show popR 0 (sSeq _ _ [0] _ []).out = _
  rw [seq_ok run, seq_ok s2, seq_ok s3, seq_ok s4, s5]
  rfl
end V

namespace V
open PySem L2 PyProof.Rows Rf
def g0 (K : PySem.W.Frag) : Gx := ⟨K, fun _ => 0, fun _ => ""⟩
theorem all_mk {l : PySem.W.OpenLaw} {w : World} {K : PySem.W.Frag} {h : Heap} {mg : Str → Option Value} {fa : Addr} (X : K.In h) (G : h.Ns mainGlobals mg) (hfa : mg "law" = some (.ref fa))
    {tk0 : Tok} {tk1 : Tok} {tk2 : Tok} {tk3 : Tok} {tk4 : Tok} {a6 : Addr} {od6 an6 : Option Addr} {sl6 : Array (Option Value)} {oc6 kV6 dc6 pm6 cd6 ct6 : Value} {a7 : Addr} {od7 an7 : Option Addr} {sl7 : Array (Option Value)} {oc7 kV7 dc7 pm7 cd7 ct7 : Value} {a13 : Addr} {od13 an13 : Option Addr} {sl13 : Array (Option Value)} {oc13 kV13 dc13 pm13 cd13 ct13 : Value} {a14 : Addr} {od14 an14 : Option Addr} {sl14 : Array (Option Value)} {oc14 kV14 dc14 pm14 cd14 ct14 : Value} {a15 : Addr} {od15 an15 : Option Addr} {sl15 : Array (Option Value)} {oc15 kV15 dc15 pm15 cd15 ct15 : Value} {a16 : Addr} {od16 an16 : Option Addr} {sl16 : Array (Option Value)} {oc16 kV16 dc16 pm16 cd16 ct16 : Value} {a17 : Addr} {od17 an17 : Option Addr} {sl17 : Array (Option Value)} {oc17 kV17 dc17 pm17 cd17 ct17 : Value} {a18 : Addr} {od18 an18 : Option Addr} {sl18 : Array (Option Value)} {oc18 kV18 dc18 pm18 cd18 ct18 : Value} {a19 : Addr} {od19 an19 : Option Addr} {sl19 : Array (Option Value)} {oc19 kV19 dc19 pm19 cd19 ct19 : Value} {a20 : Addr} {od20 an20 : Option Addr} {sl20 : Array (Option Value)} {oc20 kV20 dc20 pm20 cd20 ct20 : Value} {a21 : Addr} {od21 an21 : Option Addr} {sl21 : Array (Option Value)} {oc21 kV21 dc21 pm21 cd21 ct21 : Value} {a22 : Addr} {od22 an22 : Option Addr} {sl22 : Array (Option Value)} {oc22 kV22 dc22 pm22 cd22 ct22 : Value} {a23 : Addr} {od23 an23 : Option Addr} {sl23 : Array (Option Value)} {oc23 kV23 dc23 pm23 cd23 ct23 : Value} {a24 : Addr} {od24 an24 : Option Addr} {sl24 : Array (Option Value)} {oc24 kV24 dc24 pm24 cd24 ct24 : Value} {a25 : Addr} {od25 an25 : Option Addr} {sl25 : Array (Option Value)} {oc25 kV25 dc25 pm25 cd25 ct25 : Value} {a27 : Addr} {od27 an27 : Option Addr} {sl27 : Array (Option Value)} {oc27 kV27 dc27 pm27 cd27 ct27 : Value} {a28 : Addr} {od28 an28 : Option Addr} {sl28 : Array (Option Value)} {oc28 kV28 dc28 pm28 cd28 ct28 : Value} {a29 : Addr} {od29 an29 : Option Addr} {sl29 : Array (Option Value)} {oc29 kV29 dc29 pm29 cd29 ct29 : Value} {a30 : Addr} {od30 an30 : Option Addr} {sl30 : Array (Option Value)} {oc30 kV30 dc30 pm30 cd30 ct30 : Value} {a31 : Addr} {od31 an31 : Option Addr} {sl31 : Array (Option Value)} {oc31 kV31 dc31 pm31 cd31 ct31 : Value} {a32 : Addr} {od32 an32 : Option Addr} {sl32 : Array (Option Value)} {oc32 kV32 dc32 pm32 cd32 ct32 : Value} {a33 : Addr} {od33 an33 : Option Addr} {sl33 : Array (Option Value)} {oc33 kV33 dc33 pm33 cd33 ct33 : Value} {a34 : Addr} {od34 an34 : Option Addr} {sl34 : Array (Option Value)} {oc34 kV34 dc34 pm34 cd34 ct34 : Value} {a35 : Addr} {od35 an35 : Option Addr} {sl35 : Array (Option Value)} {oc35 kV35 dc35 pm35 cd35 ct35 : Value} {a36 : Addr} {od36 an36 : Option Addr} {sl36 : Array (Option Value)} {oc36 kV36 dc36 pm36 cd36 ct36 : Value} {a37 : Addr} {od37 an37 : Option Addr} {sl37 : Array (Option Value)} {oc37 kV37 dc37 pm37 cd37 ct37 : Value} {a38 : Addr} {od38 an38 : Option Addr} {sl38 : Array (Option Value)} {oc38 kV38 dc38 pm38 cd38 ct38 : Value} {a39 : Addr} {od39 an39 : Option Addr} {sl39 : Array (Option Value)} {oc39 kV39 dc39 pm39 cd39 ct39 : Value} {a40 : Addr} {od40 an40 : Option Addr} {sl40 : Array (Option Value)} {oc40 kV40 dc40 pm40 cd40 ct40 : Value}
    (q0 : PySem.W.nsIn K mainGlobals "MAX_CELL" = some (some (.int (999999999999999999) tk0)))
    (q1 : PySem.W.nsIn K mainGlobals "MOST_KEY" = some (some (.int (3) tk1)))
    (q2 : PySem.W.nsIn K mainGlobals "MOST_VALUE" = some (some (.int (8) tk2)))
    (q3 : PySem.W.nsIn K mainGlobals "MOST_ROWS" = some (some (.int (2000) tk3)))
    (q4 : PySem.W.nsIn K mainGlobals "MOST_TOLD" = some (some (.int (30000) tk4)))
    (m6 : PySem.W.nsIn K mainGlobals "is_cell" = some (some (.ref a6))) (l6 : K.lookup a6 = some ⟨oc6, od6, .func (PySem.W.fnOf "is_cell" "is_cell" (defArgs (top 6)) (defBody (top 6)) (defScope (top 6)) .none kV6 dc6 pm6 an6 cd6 ct6), sl6⟩) (c6 : PySem.W.codeIn K cd6 "is_cell" = true) (k6 : PySem.W.keepIn K (.ref a6) = true)
    (m7 : PySem.W.nsIn K mainGlobals "are_cells" = some (some (.ref a7))) (l7 : K.lookup a7 = some ⟨oc7, od7, .func (PySem.W.fnOf "are_cells" "are_cells" (defArgs (top 7)) (defBody (top 7)) (defScope (top 7)) .none kV7 dc7 pm7 an7 cd7 ct7), sl7⟩) (c7 : PySem.W.codeIn K cd7 "are_cells" = true) (k7 : PySem.W.keepIn K (.ref a7) = true)
    (m13 : PySem.W.nsIn K mainGlobals "is_key" = some (some (.ref a13))) (l13 : K.lookup a13 = some ⟨oc13, od13, .func (PySem.W.fnOf "is_key" "is_key" (defArgs (top 13)) (defBody (top 13)) (defScope (top 13)) .none kV13 dc13 pm13 an13 cd13 ct13), sl13⟩) (c13 : PySem.W.codeIn K cd13 "is_key" = true) (k13 : PySem.W.keepIn K (.ref a13) = true)
    (m14 : PySem.W.nsIn K mainGlobals "is_row_value" = some (some (.ref a14))) (l14 : K.lookup a14 = some ⟨oc14, od14, .func (PySem.W.fnOf "is_row_value" "is_row_value" (defArgs (top 14)) (defBody (top 14)) (defScope (top 14)) .none kV14 dc14 pm14 an14 cd14 ct14), sl14⟩) (c14 : PySem.W.codeIn K cd14 "is_row_value" = true) (k14 : PySem.W.keepIn K (.ref a14) = true)
    (m15 : PySem.W.nsIn K mainGlobals "_is_row" = some (some (.ref a15))) (l15 : K.lookup a15 = some ⟨oc15, od15, .func (PySem.W.fnOf "_is_row" "_is_row" (defArgs (top 15)) (defBody (top 15)) (defScope (top 15)) .none kV15 dc15 pm15 an15 cd15 ct15), sl15⟩) (c15 : PySem.W.codeIn K cd15 "_is_row" = true) (k15 : PySem.W.keepIn K (.ref a15) = true)
    (m16 : PySem.W.nsIn K mainGlobals "_do_ascend" = some (some (.ref a16))) (l16 : K.lookup a16 = some ⟨oc16, od16, .func (PySem.W.fnOf "_do_ascend" "_do_ascend" (defArgs (top 16)) (defBody (top 16)) (defScope (top 16)) .none kV16 dc16 pm16 an16 cd16 ct16), sl16⟩) (c16 : PySem.W.codeIn K cd16 "_do_ascend" = true) (k16 : PySem.W.keepIn K (.ref a16) = true)
    (m17 : PySem.W.nsIn K mainGlobals "are_rows" = some (some (.ref a17))) (l17 : K.lookup a17 = some ⟨oc17, od17, .func (PySem.W.fnOf "are_rows" "are_rows" (defArgs (top 17)) (defBody (top 17)) (defScope (top 17)) .none kV17 dc17 pm17 an17 cd17 ct17), sl17⟩) (c17 : PySem.W.codeIn K cd17 "are_rows" = true) (k17 : PySem.W.keepIn K (.ref a17) = true)
    (m18 : PySem.W.nsIn K mainGlobals "check_key" = some (some (.ref a18))) (l18 : K.lookup a18 = some ⟨oc18, od18, .func (PySem.W.fnOf "check_key" "check_key" (defArgs (top 18)) (defBody (top 18)) (defScope (top 18)) .none kV18 dc18 pm18 an18 cd18 ct18), sl18⟩) (c18 : PySem.W.codeIn K cd18 "check_key" = true) (k18 : PySem.W.keepIn K (.ref a18) = true)
    (m19 : PySem.W.nsIn K mainGlobals "check_rows" = some (some (.ref a19))) (l19 : K.lookup a19 = some ⟨oc19, od19, .func (PySem.W.fnOf "check_rows" "check_rows" (defArgs (top 19)) (defBody (top 19)) (defScope (top 19)) .none kV19 dc19 pm19 an19 cd19 ct19), sl19⟩) (c19 : PySem.W.codeIn K cd19 "check_rows" = true) (k19 : PySem.W.keepIn K (.ref a19) = true)
    (m20 : PySem.W.nsIn K mainGlobals "cells_of_row" = some (some (.ref a20))) (l20 : K.lookup a20 = some ⟨oc20, od20, .func (PySem.W.fnOf "cells_of_row" "cells_of_row" (defArgs (top 20)) (defBody (top 20)) (defScope (top 20)) .none kV20 dc20 pm20 an20 cd20 ct20), sl20⟩) (c20 : PySem.W.codeIn K cd20 "cells_of_row" = true) (k20 : PySem.W.keepIn K (.ref a20) = true)
    (m21 : PySem.W.nsIn K mainGlobals "row_cells" = some (some (.ref a21))) (l21 : K.lookup a21 = some ⟨oc21, od21, .func (PySem.W.fnOf "row_cells" "row_cells" (defArgs (top 21)) (defBody (top 21)) (defScope (top 21)) .none kV21 dc21 pm21 an21 cd21 ct21), sl21⟩) (c21 : PySem.W.codeIn K cd21 "row_cells" = true) (k21 : PySem.W.keepIn K (.ref a21) = true)
    (m22 : PySem.W.nsIn K mainGlobals "rows_cells" = some (some (.ref a22))) (l22 : K.lookup a22 = some ⟨oc22, od22, .func (PySem.W.fnOf "rows_cells" "rows_cells" (defArgs (top 22)) (defBody (top 22)) (defScope (top 22)) .none kV22 dc22 pm22 an22 cd22 ct22), sl22⟩) (c22 : PySem.W.codeIn K cd22 "rows_cells" = true) (k22 : PySem.W.keepIn K (.ref a22) = true)
    (m23 : PySem.W.nsIn K mainGlobals "_stretch" = some (some (.ref a23))) (l23 : K.lookup a23 = some ⟨oc23, od23, .func (PySem.W.fnOf "_stretch" "_stretch" (defArgs (top 23)) (defBody (top 23)) (defScope (top 23)) .none kV23 dc23 pm23 an23 cd23 ct23), sl23⟩) (c23 : PySem.W.codeIn K cd23 "_stretch" = true) (k23 : PySem.W.keepIn K (.ref a23) = true)
    (m24 : PySem.W.nsIn K mainGlobals "rows_in_cells" = some (some (.ref a24))) (l24 : K.lookup a24 = some ⟨oc24, od24, .func (PySem.W.fnOf "rows_in_cells" "rows_in_cells" (defArgs (top 24)) (defBody (top 24)) (defScope (top 24)) .none kV24 dc24 pm24 an24 cd24 ct24), sl24⟩) (c24 : PySem.W.codeIn K cd24 "rows_in_cells" = true) (k24 : PySem.W.keepIn K (.ref a24) = true)
    (m25 : PySem.W.nsIn K mainGlobals "rows_told" = some (some (.ref a25))) (l25 : K.lookup a25 = some ⟨oc25, od25, .func (PySem.W.fnOf "rows_told" "rows_told" (defArgs (top 25)) (defBody (top 25)) (defScope (top 25)) .none kV25 dc25 pm25 an25 cd25 ct25), sl25⟩) (c25 : PySem.W.codeIn K cd25 "rows_told" = true) (k25 : PySem.W.keepIn K (.ref a25) = true)
    (m27 : PySem.W.nsIn K mainGlobals "_law_vat" = some (some (.ref a27))) (l27 : K.lookup a27 = some ⟨oc27, od27, .func (PySem.W.fnOf "_law_vat" "_law_vat" (defArgs (top 27)) (defBody (top 27)) (defScope (top 27)) .none kV27 dc27 pm27 an27 cd27 ct27), sl27⟩) (c27 : PySem.W.codeIn K cd27 "_law_vat" = true) (k27 : PySem.W.keepIn K (.ref a27) = true)
    (m28 : PySem.W.nsIn K mainGlobals "_law_drop" = some (some (.ref a28))) (l28 : K.lookup a28 = some ⟨oc28, od28, .func (PySem.W.fnOf "_law_drop" "_law_drop" (defArgs (top 28)) (defBody (top 28)) (defScope (top 28)) .none kV28 dc28 pm28 an28 cd28 ct28), sl28⟩) (c28 : PySem.W.codeIn K cd28 "_law_drop" = true) (k28 : PySem.W.keepIn K (.ref a28) = true)
    (m29 : PySem.W.nsIn K mainGlobals "_law_taste" = some (some (.ref a29))) (l29 : K.lookup a29 = some ⟨oc29, od29, .func (PySem.W.fnOf "_law_taste" "_law_taste" (defArgs (top 29)) (defBody (top 29)) (defScope (top 29)) .none kV29 dc29 pm29 an29 cd29 ct29), sl29⟩) (c29 : PySem.W.codeIn K cd29 "_law_taste" = true) (k29 : PySem.W.keepIn K (.ref a29) = true)
    (m30 : PySem.W.nsIn K mainGlobals "_law_cells" = some (some (.ref a30))) (l30 : K.lookup a30 = some ⟨oc30, od30, .func (PySem.W.fnOf "_law_cells" "_law_cells" (defArgs (top 30)) (defBody (top 30)) (defScope (top 30)) .none kV30 dc30 pm30 an30 cd30 ct30), sl30⟩) (c30 : PySem.W.codeIn K cd30 "_law_cells" = true) (k30 : PySem.W.keepIn K (.ref a30) = true)
    (m31 : PySem.W.nsIn K mainGlobals "_law_rows" = some (some (.ref a31))) (l31 : K.lookup a31 = some ⟨oc31, od31, .func (PySem.W.fnOf "_law_rows" "_law_rows" (defArgs (top 31)) (defBody (top 31)) (defScope (top 31)) .none kV31 dc31 pm31 an31 cd31 ct31), sl31⟩) (c31 : PySem.W.codeIn K cd31 "_law_rows" = true) (k31 : PySem.W.keepIn K (.ref a31) = true)
    (m32 : PySem.W.nsIn K mainGlobals "_law_own_cells" = some (some (.ref a32))) (l32 : K.lookup a32 = some ⟨oc32, od32, .func (PySem.W.fnOf "_law_own_cells" "_law_own_cells" (defArgs (top 32)) (defBody (top 32)) (defScope (top 32)) .none kV32 dc32 pm32 an32 cd32 ct32), sl32⟩) (c32 : PySem.W.codeIn K cd32 "_law_own_cells" = true) (k32 : PySem.W.keepIn K (.ref a32) = true)
    (m33 : PySem.W.nsIn K mainGlobals "_law_stretch" = some (some (.ref a33))) (l33 : K.lookup a33 = some ⟨oc33, od33, .func (PySem.W.fnOf "_law_stretch" "_law_stretch" (defArgs (top 33)) (defBody (top 33)) (defScope (top 33)) .none kV33 dc33 pm33 an33 cd33 ct33), sl33⟩) (c33 : PySem.W.codeIn K cd33 "_law_stretch" = true) (k33 : PySem.W.keepIn K (.ref a33) = true)
    (m34 : PySem.W.nsIn K mainGlobals "_law_read" = some (some (.ref a34))) (l34 : K.lookup a34 = some ⟨oc34, od34, .func (PySem.W.fnOf "_law_read" "_law_read" (defArgs (top 34)) (defBody (top 34)) (defScope (top 34)) .none kV34 dc34 pm34 an34 cd34 ct34), sl34⟩) (c34 : PySem.W.codeIn K cd34 "_law_read" = true) (k34 : PySem.W.keepIn K (.ref a34) = true)
    (m35 : PySem.W.nsIn K mainGlobals "_law_is_cells" = some (some (.ref a35))) (l35 : K.lookup a35 = some ⟨oc35, od35, .func (PySem.W.fnOf "_law_is_cells" "_law_is_cells" (defArgs (top 35)) (defBody (top 35)) (defScope (top 35)) .none kV35 dc35 pm35 an35 cd35 ct35), sl35⟩) (c35 : PySem.W.codeIn K cd35 "_law_is_cells" = true) (k35 : PySem.W.keepIn K (.ref a35) = true)
    (m36 : PySem.W.nsIn K mainGlobals "_law_are_rows" = some (some (.ref a36))) (l36 : K.lookup a36 = some ⟨oc36, od36, .func (PySem.W.fnOf "_law_are_rows" "_law_are_rows" (defArgs (top 36)) (defBody (top 36)) (defScope (top 36)) .none kV36 dc36 pm36 an36 cd36 ct36), sl36⟩) (c36 : PySem.W.codeIn K cd36 "_law_are_rows" = true) (k36 : PySem.W.keepIn K (.ref a36) = true)
    (m37 : PySem.W.nsIn K mainGlobals "_law_near_cells" = some (some (.ref a37))) (l37 : K.lookup a37 = some ⟨oc37, od37, .func (PySem.W.fnOf "_law_near_cells" "_law_near_cells" (defArgs (top 37)) (defBody (top 37)) (defScope (top 37)) .none kV37 dc37 pm37 an37 cd37 ct37), sl37⟩) (c37 : PySem.W.codeIn K cd37 "_law_near_cells" = true) (k37 : PySem.W.keepIn K (.ref a37) = true)
    (m38 : PySem.W.nsIn K mainGlobals "_law_near_rows" = some (some (.ref a38))) (l38 : K.lookup a38 = some ⟨oc38, od38, .func (PySem.W.fnOf "_law_near_rows" "_law_near_rows" (defArgs (top 38)) (defBody (top 38)) (defScope (top 38)) .none kV38 dc38 pm38 an38 cd38 ct38), sl38⟩) (c38 : PySem.W.codeIn K cd38 "_law_near_rows" = true) (k38 : PySem.W.keepIn K (.ref a38) = true)
    (m39 : PySem.W.nsIn K mainGlobals "_law_right" = some (some (.ref a39))) (l39 : K.lookup a39 = some ⟨oc39, od39, .func (PySem.W.fnOf "_law_right" "_law_right" (defArgs (top 39)) (defBody (top 39)) (defScope (top 39)) .none kV39 dc39 pm39 an39 cd39 ct39), sl39⟩) (c39 : PySem.W.codeIn K cd39 "_law_right" = true) (k39 : PySem.W.keepIn K (.ref a39) = true)
    (m40 : PySem.W.nsIn K mainGlobals "law" = some (some (.ref a40))) (l40 : K.lookup a40 = some ⟨oc40, od40, .func (PySem.W.fnOf "law" "law" (defArgs (top 40)) (defBody (top 40)) (defScope (top 40)) .none kV40 dc40 pm40 an40 cd40 ct40), sl40⟩) (c40 : PySem.W.codeIn K cd40 "law" = true) (k40 : PySem.W.keepIn K (.ref a40) = true)
    (z0 : PySem.W.nsIn K mainGlobals "isinstance" = some none)
    (z1 : PySem.W.nsIn K mainGlobals "bool" = some none)
    (z2 : PySem.W.nsIn K mainGlobals "int" = some none)
    (z3 : PySem.W.nsIn K mainGlobals "len" = some none)
    (z4 : PySem.W.nsIn K mainGlobals "tuple" = some none)
    (z5 : PySem.W.nsIn K mainGlobals "all" = some none)
    (z6 : PySem.W.nsIn K mainGlobals "range" = some none)
    (z7 : PySem.W.nsIn K mainGlobals "abs" = some none)
    (z8 : PySem.W.nsIn K mainGlobals "max" = some none)
    (z9 : PySem.W.nsIn K mainGlobals "sorted" = some none)
    (z10 : PySem.W.nsIn K mainGlobals "zip" = some none)
    (z11 : PySem.W.nsIn K mainGlobals "dict" = some none)
    (z12 : PySem.W.nsIn K mainGlobals "list" = some none)
    (z13 : PySem.W.nsIn K mainGlobals "repr" = some none)
    (z14 : PySem.W.nsIn K mainGlobals "min" = some none)
    : ∃ fd : FuncData, (∀ (s : Shared) (v : Value), BindsTo s fd ⟨[v], []⟩ [("script", v)]) ∧ ∀ base : Heap, K.In base → base.Ns mainGlobals mg → FnG l.prog w K mg base 9 fa fd ["script"] (spF (g0 K) F_law) := by
  have e := hfa.symm.trans (PySem.W.mg_of X G m40)
  cases e
  have F6 := fun_mk (st := top 6) l6 c6 k6
  have F7 := fun_mk (st := top 7) l7 c7 k7
  have F13 := fun_mk (st := top 13) l13 c13 k13
  have F14 := fun_mk (st := top 14) l14 c14 k14
  have F15 := fun_mk (st := top 15) l15 c15 k15
  have F16 := fun_mk (st := top 16) l16 c16 k16
  have F17 := fun_mk (st := top 17) l17 c17 k17
  have F18 := fun_mk (st := top 18) l18 c18 k18
  have F19 := fun_mk (st := top 19) l19 c19 k19
  have F20 := fun_mk (st := top 20) l20 c20 k20
  have F21 := fun_mk (st := top 21) l21 c21 k21
  have F22 := fun_mk (st := top 22) l22 c22 k22
  have F23 := fun_mk (st := top 23) l23 c23 k23
  have F24 := fun_mk (st := top 24) l24 c24 k24
  have F25 := fun_mk (st := top 25) l25 c25 k25
  have F27 := fun_mk (st := top 27) l27 c27 k27
  have F28 := fun_mk (st := top 28) l28 c28 k28
  have F29 := fun_mk (st := top 29) l29 c29 k29
  have F30 := fun_mk (st := top 30) l30 c30 k30
  have F31 := fun_mk (st := top 31) l31 c31 k31
  have F32 := fun_mk (st := top 32) l32 c32 k32
  have F33 := fun_mk (st := top 33) l33 c33 k33
  have F34 := fun_mk (st := top 34) l34 c34 k34
  have F35 := fun_mk (st := top 35) l35 c35 k35
  have F36 := fun_mk (st := top 36) l36 c36 k36
  have F37 := fun_mk (st := top 37) l37 c37 k37
  have F38 := fun_mk (st := top 38) l38 c38 k38
  have F39 := fun_mk (st := top 39) l39 c39 k39
  have F40 := fun_mk (st := top 40) l40 c40 k40
  let aa : Nat → Addr := fun i => match i with | 6 => a6 | 7 => a7 | 13 => a13 | 14 => a14 | 15 => a15 | 16 => a16 | 17 => a17 | 18 => a18 | 19 => a19 | 20 => a20 | 21 => a21 | 22 => a22 | 23 => a23 | 24 => a24 | 25 => a25 | 27 => a27 | 28 => a28 | 29 => a29 | 30 => a30 | 31 => a31 | 32 => a32 | 33 => a33 | 34 => a34 | 35 => a35 | 36 => a36 | 37 => a37 | 38 => a38 | 39 => a39 | 40 => fa | _ => 0
  let ff : Nat → FuncData := fun i => match i with | 6 => PySem.W.fnOf "is_cell" "is_cell" (defArgs (top 6)) (defBody (top 6)) (defScope (top 6)) .none kV6 dc6 pm6 an6 cd6 ct6 | 7 => PySem.W.fnOf "are_cells" "are_cells" (defArgs (top 7)) (defBody (top 7)) (defScope (top 7)) .none kV7 dc7 pm7 an7 cd7 ct7 | 13 => PySem.W.fnOf "is_key" "is_key" (defArgs (top 13)) (defBody (top 13)) (defScope (top 13)) .none kV13 dc13 pm13 an13 cd13 ct13 | 14 => PySem.W.fnOf "is_row_value" "is_row_value" (defArgs (top 14)) (defBody (top 14)) (defScope (top 14)) .none kV14 dc14 pm14 an14 cd14 ct14 | 15 => PySem.W.fnOf "_is_row" "_is_row" (defArgs (top 15)) (defBody (top 15)) (defScope (top 15)) .none kV15 dc15 pm15 an15 cd15 ct15 | 16 => PySem.W.fnOf "_do_ascend" "_do_ascend" (defArgs (top 16)) (defBody (top 16)) (defScope (top 16)) .none kV16 dc16 pm16 an16 cd16 ct16 | 17 => PySem.W.fnOf "are_rows" "are_rows" (defArgs (top 17)) (defBody (top 17)) (defScope (top 17)) .none kV17 dc17 pm17 an17 cd17 ct17 | 18 => PySem.W.fnOf "check_key" "check_key" (defArgs (top 18)) (defBody (top 18)) (defScope (top 18)) .none kV18 dc18 pm18 an18 cd18 ct18 | 19 => PySem.W.fnOf "check_rows" "check_rows" (defArgs (top 19)) (defBody (top 19)) (defScope (top 19)) .none kV19 dc19 pm19 an19 cd19 ct19 | 20 => PySem.W.fnOf "cells_of_row" "cells_of_row" (defArgs (top 20)) (defBody (top 20)) (defScope (top 20)) .none kV20 dc20 pm20 an20 cd20 ct20 | 21 => PySem.W.fnOf "row_cells" "row_cells" (defArgs (top 21)) (defBody (top 21)) (defScope (top 21)) .none kV21 dc21 pm21 an21 cd21 ct21 | 22 => PySem.W.fnOf "rows_cells" "rows_cells" (defArgs (top 22)) (defBody (top 22)) (defScope (top 22)) .none kV22 dc22 pm22 an22 cd22 ct22 | 23 => PySem.W.fnOf "_stretch" "_stretch" (defArgs (top 23)) (defBody (top 23)) (defScope (top 23)) .none kV23 dc23 pm23 an23 cd23 ct23 | 24 => PySem.W.fnOf "rows_in_cells" "rows_in_cells" (defArgs (top 24)) (defBody (top 24)) (defScope (top 24)) .none kV24 dc24 pm24 an24 cd24 ct24 | 25 => PySem.W.fnOf "rows_told" "rows_told" (defArgs (top 25)) (defBody (top 25)) (defScope (top 25)) .none kV25 dc25 pm25 an25 cd25 ct25 | 27 => PySem.W.fnOf "_law_vat" "_law_vat" (defArgs (top 27)) (defBody (top 27)) (defScope (top 27)) .none kV27 dc27 pm27 an27 cd27 ct27 | 28 => PySem.W.fnOf "_law_drop" "_law_drop" (defArgs (top 28)) (defBody (top 28)) (defScope (top 28)) .none kV28 dc28 pm28 an28 cd28 ct28 | 29 => PySem.W.fnOf "_law_taste" "_law_taste" (defArgs (top 29)) (defBody (top 29)) (defScope (top 29)) .none kV29 dc29 pm29 an29 cd29 ct29 | 30 => PySem.W.fnOf "_law_cells" "_law_cells" (defArgs (top 30)) (defBody (top 30)) (defScope (top 30)) .none kV30 dc30 pm30 an30 cd30 ct30 | 31 => PySem.W.fnOf "_law_rows" "_law_rows" (defArgs (top 31)) (defBody (top 31)) (defScope (top 31)) .none kV31 dc31 pm31 an31 cd31 ct31 | 32 => PySem.W.fnOf "_law_own_cells" "_law_own_cells" (defArgs (top 32)) (defBody (top 32)) (defScope (top 32)) .none kV32 dc32 pm32 an32 cd32 ct32 | 33 => PySem.W.fnOf "_law_stretch" "_law_stretch" (defArgs (top 33)) (defBody (top 33)) (defScope (top 33)) .none kV33 dc33 pm33 an33 cd33 ct33 | 34 => PySem.W.fnOf "_law_read" "_law_read" (defArgs (top 34)) (defBody (top 34)) (defScope (top 34)) .none kV34 dc34 pm34 an34 cd34 ct34 | 35 => PySem.W.fnOf "_law_is_cells" "_law_is_cells" (defArgs (top 35)) (defBody (top 35)) (defScope (top 35)) .none kV35 dc35 pm35 an35 cd35 ct35 | 36 => PySem.W.fnOf "_law_are_rows" "_law_are_rows" (defArgs (top 36)) (defBody (top 36)) (defScope (top 36)) .none kV36 dc36 pm36 an36 cd36 ct36 | 37 => PySem.W.fnOf "_law_near_cells" "_law_near_cells" (defArgs (top 37)) (defBody (top 37)) (defScope (top 37)) .none kV37 dc37 pm37 an37 cd37 ct37 | 38 => PySem.W.fnOf "_law_near_rows" "_law_near_rows" (defArgs (top 38)) (defBody (top 38)) (defScope (top 38)) .none kV38 dc38 pm38 an38 cd38 ct38 | 39 => PySem.W.fnOf "_law_right" "_law_right" (defArgs (top 39)) (defBody (top 39)) (defScope (top 39)) .none kV39 dc39 pm39 an39 cd39 ct39 | 40 => PySem.W.fnOf "law" "law" (defArgs (top 40)) (defBody (top 40)) (defScope (top 40)) .none kV40 dc40 pm40 an40 cd40 ct40 | _ => PySem.W.fnOf "law" "law" (defArgs (top 40)) (defBody (top 40)) (defScope (top 40)) .none kV40 dc40 pm40 an40 cd40 ct40
  have T : Txt (g0 K).K mg aa ff := {
    c_MAX_CELL := ⟨_, PySem.W.mg_of X G q0, ⟨_, rfl⟩⟩
    c_MOST_KEY := ⟨_, PySem.W.mg_of X G q1, ⟨_, rfl⟩⟩
    c_MOST_VALUE := ⟨_, PySem.W.mg_of X G q2, ⟨_, rfl⟩⟩
    c_MOST_ROWS := ⟨_, PySem.W.mg_of X G q3, ⟨_, rfl⟩⟩
    c_MOST_TOLD := ⟨_, PySem.W.mg_of X G q4, ⟨_, rfl⟩⟩
    b_isinstance := PySem.W.mg_none_of X G z0
    b_bool := PySem.W.mg_none_of X G z1
    b_int := PySem.W.mg_none_of X G z2
    b_len := PySem.W.mg_none_of X G z3
    b_tuple := PySem.W.mg_none_of X G z4
    b_all := PySem.W.mg_none_of X G z5
    b_range := PySem.W.mg_none_of X G z6
    b_abs := PySem.W.mg_none_of X G z7
    b_max := PySem.W.mg_none_of X G z8
    b_sorted := PySem.W.mg_none_of X G z9
    b_zip := PySem.W.mg_none_of X G z10
    b_dict := PySem.W.mg_none_of X G z11
    b_list := PySem.W.mg_none_of X G z12
    b_repr := PySem.W.mg_none_of X G z13
    b_min := PySem.W.mg_none_of X G z14
    f_is_cell := F6
    n_is_cell := F6.binds (ps := ["value"]) fun _ _ _ _ _ _ us hl => match us, hl with | [_], _ => rfl
    g_is_cell := PySem.W.mg_of X G m6
    f_are_cells := F7
    n_are_cells := F7.binds (ps := ["value", "most"]) fun _ _ _ _ _ _ us hl => match us, hl with | [_, _], _ => rfl
    g_are_cells := PySem.W.mg_of X G m7
    f_is_key := F13
    n_is_key := F13.binds (ps := ["value"]) fun _ _ _ _ _ _ us hl => match us, hl with | [_], _ => rfl
    g_is_key := PySem.W.mg_of X G m13
    f_is_row_value := F14
    n_is_row_value := F14.binds (ps := ["value"]) fun _ _ _ _ _ _ us hl => match us, hl with | [_], _ => rfl
    g_is_row_value := PySem.W.mg_of X G m14
    f__is_row := F15
    n__is_row := F15.binds (ps := ["value"]) fun _ _ _ _ _ _ us hl => match us, hl with | [_], _ => rfl
    g__is_row := PySem.W.mg_of X G m15
    f__do_ascend := F16
    n__do_ascend := F16.binds (ps := ["keys_there"]) fun _ _ _ _ _ _ us hl => match us, hl with | [_], _ => rfl
    g__do_ascend := PySem.W.mg_of X G m16
    f_are_rows := F17
    n_are_rows := F17.binds (ps := ["value"]) fun _ _ _ _ _ _ us hl => match us, hl with | [_], _ => rfl
    g_are_rows := PySem.W.mg_of X G m17
    f_check_key := F18
    n_check_key := F18.binds (ps := ["key"]) fun _ _ _ _ _ _ us hl => match us, hl with | [_], _ => rfl
    g_check_key := PySem.W.mg_of X G m18
    f_check_rows := F19
    n_check_rows := F19.binds (ps := ["rows"]) fun _ _ _ _ _ _ us hl => match us, hl with | [_], _ => rfl
    g_check_rows := PySem.W.mg_of X G m19
    f_cells_of_row := F20
    n_cells_of_row := F20.binds (ps := ["key", "value"]) fun _ _ _ _ _ _ us hl => match us, hl with | [_, _], _ => rfl
    g_cells_of_row := PySem.W.mg_of X G m20
    f_row_cells := F21
    n_row_cells := F21.binds (ps := ["key", "value"]) fun _ _ _ _ _ _ us hl => match us, hl with | [_, _], _ => rfl
    g_row_cells := PySem.W.mg_of X G m21
    f_rows_cells := F22
    n_rows_cells := F22.binds (ps := ["rows"]) fun _ _ _ _ _ _ us hl => match us, hl with | [_], _ => rfl
    g_rows_cells := PySem.W.mg_of X G m22
    f__stretch := F23
    n__stretch := F23.binds (ps := ["cells", "at", "most"]) fun _ _ _ _ _ _ us hl => match us, hl with | [_, _, _], _ => rfl
    g__stretch := PySem.W.mg_of X G m23
    f_rows_in_cells := F24
    n_rows_in_cells := F24.binds (ps := ["cells"]) fun _ _ _ _ _ _ us hl => match us, hl with | [_], _ => rfl
    g_rows_in_cells := PySem.W.mg_of X G m24
    f_rows_told := F25
    n_rows_told := F25.binds (ps := ["cells"]) fun _ _ _ _ _ _ us hl => match us, hl with | [_], _ => rfl
    g_rows_told := PySem.W.mg_of X G m25
    f__law_vat := F27
    n__law_vat := F27.binds (ps := ["script", "spot"]) fun _ _ _ _ _ _ us hl => match us, hl with | [_, _], _ => rfl
    g__law_vat := PySem.W.mg_of X G m27
    f__law_drop := F28
    n__law_drop := F28.binds (ps := ["vat", "total"]) fun _ _ _ _ _ _ us hl => match us, hl with | [_, _], _ => rfl
    g__law_drop := PySem.W.mg_of X G m28
    f__law_taste := F29
    n__law_taste := F29.binds (ps := ["vat", "items"]) fun _ _ _ _ _ _ us hl => match us, hl with | [_, _], _ => rfl
    g__law_taste := PySem.W.mg_of X G m29
    f__law_cells := F30
    n__law_cells := F30.binds (ps := ["vat", "least", "most"]) fun _ _ _ _ _ _ us hl => match us, hl with | [_, _, _], _ => rfl
    g__law_cells := PySem.W.mg_of X G m30
    f__law_rows := F31
    n__law_rows := F31.binds (ps := ["vat", "most"]) fun _ _ _ _ _ _ us hl => match us, hl with | [_, _], _ => rfl
    g__law_rows := PySem.W.mg_of X G m31
    f__law_own_cells := F32
    n__law_own_cells := F32.binds (ps := ["rows"]) fun _ _ _ _ _ _ us hl => match us, hl with | [_], _ => rfl
    g__law_own_cells := PySem.W.mg_of X G m32
    f__law_stretch := F33
    n__law_stretch := F33.binds (ps := ["cells", "at", "most"]) fun _ _ _ _ _ _ us hl => match us, hl with | [_, _, _], _ => rfl
    g__law_stretch := PySem.W.mg_of X G m33
    f__law_read := F34
    n__law_read := F34.binds (ps := ["cells"]) fun _ _ _ _ _ _ us hl => match us, hl with | [_], _ => rfl
    g__law_read := PySem.W.mg_of X G m34
    f__law_is_cells := F35
    n__law_is_cells := F35.binds (ps := ["value", "most"]) fun _ _ _ _ _ _ us hl => match us, hl with | [_, _], _ => rfl
    g__law_is_cells := PySem.W.mg_of X G m35
    f__law_are_rows := F36
    n__law_are_rows := F36.binds (ps := ["value"]) fun _ _ _ _ _ _ us hl => match us, hl with | [_], _ => rfl
    g__law_are_rows := PySem.W.mg_of X G m36
    f__law_near_cells := F37
    n__law_near_cells := F37.binds (ps := ["vat", "cells"]) fun _ _ _ _ _ _ us hl => match us, hl with | [_, _], _ => rfl
    g__law_near_cells := PySem.W.mg_of X G m37
    f__law_near_rows := F38
    n__law_near_rows := F38.binds (ps := ["vat", "rows"]) fun _ _ _ _ _ _ us hl => match us, hl with | [_, _], _ => rfl
    g__law_near_rows := PySem.W.mg_of X G m38
    f__law_right := F39
    n__law_right := F39.binds (ps := ["vat"]) fun _ _ _ _ _ _ us hl => match us, hl with | [_], _ => rfl
    g__law_right := PySem.W.mg_of X G m39
    f_law := F40
    n_law := F40.binds (ps := ["script"]) fun _ _ _ _ _ _ us hl => match us, hl with | [_], _ => rfl
    g_law := PySem.W.mg_of X G m40
  }
  exact ⟨PySem.W.fnOf "law" "law" (defArgs (top 40)) (defBody (top 40)) (defScope (top 40)) .none kV40 dc40 pm40 an40 cd40 ct40, fun s v => .of_eq rfl, fun base _ _ => ok_law T⟩
theorem promise (right : ∀ ns : List Int, ns.length ≤ 63 → (∀ z ∈ ns, Builtin.Int.intBits z ≤ 1048576) → ∃ S, F_law [] [.lw (ns.map fun n => .dat (.int n))] [] = .ok (.bl true) S) (w : World) (K : PySem.W.Frag) (H : Hp) (a : Addr) (ns : List Int) (hl : ns.length ≤ 63) (hb : ∀ z ∈ ns, Builtin.Int.intBits z ≤ 1048576) (sq : SqL K H a (ns.map V.int)) :
    spF (g0 K) F_law [.ref a] H (fun v _ => v = .bl true) fun _ _ _ => False := by
  obtain ⟨S, e⟩ := right ns hl hb
  have told : ∀ l : List Int, IsAll K [] H (l.map V.int) (l.map fun n => .dat (.int n)) := fun l => by
    induction l with
    | nil => exact .nil
    | cons n l ih => exact .cons (.dat (.int n)) ih
  have sim : Sim (g0 K) [] [] H (fun _ => none) [] H := ⟨rfl, List.nodup_nil, Same.refl H, fun a z => (nomatch z), fun n c a z => (by simp at z), fun a u z => (nomatch (show (none : Option HO) = some u from z)), fun a u z => (nomatch (show (none : Option HO) = some u from z)), fun a u z => (nomatch (show (none : Option HO) = some u from z)), fun b z => (nomatch z)⟩
  refine ⟨[], [], H, fun _ => none, [], _, sim, .cons (.lw sq (told ns)) .nil, ?_⟩
  rw [e]
  intro ρ' F' H' v gr sim' r
  cases r with
  | dat r => cases r; rfl
theorem walk {l : PySem.W.OpenLaw} {q : Program} {loose : List Str} {XP : (Str → Option Value) → Heap → Prop} {YP : World → Heap → Prop} {d : DefRec} {K : Params → PySem.W.Frag} (right : ∀ ns : List Int, ns.length ≤ 63 → (∀ z ∈ ns, Builtin.Int.intBits z ≤ 1048576) → ∃ S, F_law [] [.lw (ns.map fun n => .dat (.int n))] [] = .ok (.bl true) S) (hn : l.most = some 63) (plain : d.params.defaults = []) (known : ∀ (w : World) (h : Heap), YP w h → (K w.params).In h)
    (F : ∀ (w : World) (mg : Str → Option Value) (fa : Addr) (h : Heap), (K w.params).In h → h.Ns mainGlobals mg → mg d.name = some (.ref fa) → ∃ fd : FuncData, (∀ (s : Shared) (u : Value), BindsTo s fd ⟨[u], []⟩ [("script", u)]) ∧ ∀ base : Heap, (K w.params).In base → base.Ns mainGlobals mg → FnG l.prog w (K w.params) mg base 9 fa fd ["script"] (spF (g0 (K w.params)) F_law)) :
    PySem.W.WalkO q loose XP YP l.row.toRowW d [] (fun f vs => PySem.call f vs) :=
  walk_end (n := 63) (k := 9) (x := "script") (sp := fun w => spF (g0 (K w.params)) F_law) hn (by decide) plain ⟨rfl, by decide, by decide⟩ known F fun w H a ns hl hb _ sq => promise right w _ H a ns hl hb sq

end V
open PySem PySem.W PyProof.Rows
set_option maxRecDepth 100000 in
set_option maxHeartbeats 0 in
theorem PySem.Challenge.cw_everycut_k17_whole_rows_told_by_cells_holds : PySem.Challenge.rw_everycut_k17_whole_rows_told_by_cells.Holds := by
  w_on; o_law; k_head; (case hw => w_witness2)
  k_fill
  refine V.walk (l := PySem.Challenge.rw_everycut_k17_whole_rows_told_by_cells) V.right rfl rfl (fun w h Y => PySem.W.kIn_of Y) ?F
  case F =>
    intro w mg fa h KX G hmg
    refine' V.all_mk KX G hmg ?q0 ?q1 ?q2 ?q3 ?q4 ?m6 ?l6 ?c6 ?k6 ?m7 ?l7 ?c7 ?k7 ?m13 ?l13 ?c13 ?k13 ?m14 ?l14 ?c14 ?k14 ?m15 ?l15 ?c15 ?k15 ?m16 ?l16 ?c16 ?k16 ?m17 ?l17 ?c17 ?k17 ?m18 ?l18 ?c18 ?k18 ?m19 ?l19 ?c19 ?k19 ?m20 ?l20 ?c20 ?k20 ?m21 ?l21 ?c21 ?k21 ?m22 ?l22 ?c22 ?k22 ?m23 ?l23 ?c23 ?k23 ?m24 ?l24 ?c24 ?k24 ?m25 ?l25 ?c25 ?k25 ?m27 ?l27 ?c27 ?k27 ?m28 ?l28 ?c28 ?k28 ?m29 ?l29 ?c29 ?k29 ?m30 ?l30 ?c30 ?k30 ?m31 ?l31 ?c31 ?k31 ?m32 ?l32 ?c32 ?k32 ?m33 ?l33 ?c33 ?k33 ?m34 ?l34 ?c34 ?k34 ?m35 ?l35 ?c35 ?k35 ?m36 ?l36 ?c36 ?k36 ?m37 ?l37 ?c37 ?k37 ?m38 ?l38 ?c38 ?k38 ?m39 ?l39 ?c39 ?k39 ?m40 ?l40 ?c40 ?k40 ?z0 ?z1 ?z2 ?z3 ?z4 ?z5 ?z6 ?z7 ?z8 ?z9 ?z10 ?z11 ?z12 ?z13 ?z14
    (case q0 => k_is)
    (case q1 => k_is)
    (case q2 => k_is)
    (case q3 => k_is)
    (case q4 => k_is)
    (case m6 => k_is)
    (case l6 => k_is)
    (case c6 => k_is)
    (case k6 => k_is)
    (case m7 => k_is)
    (case l7 => k_is)
    (case c7 => k_is)
    (case k7 => k_is)
    (case m13 => k_is)
    (case l13 => k_is)
    (case c13 => k_is)
    (case k13 => k_is)
    (case m14 => k_is)
    (case l14 => k_is)
    (case c14 => k_is)
    (case k14 => k_is)
    (case m15 => k_is)
    (case l15 => k_is)
    (case c15 => k_is)
    (case k15 => k_is)
    (case m16 => k_is)
    (case l16 => k_is)
    (case c16 => k_is)
    (case k16 => k_is)
    (case m17 => k_is)
    (case l17 => k_is)
    (case c17 => k_is)
    (case k17 => k_is)
    (case m18 => k_is)
    (case l18 => k_is)
    (case c18 => k_is)
    (case k18 => k_is)
    (case m19 => k_is)
    (case l19 => k_is)
    (case c19 => k_is)
    (case k19 => k_is)
    (case m20 => k_is)
    (case l20 => k_is)
    (case c20 => k_is)
    (case k20 => k_is)
    (case m21 => k_is)
    (case l21 => k_is)
    (case c21 => k_is)
    (case k21 => k_is)
    (case m22 => k_is)
    (case l22 => k_is)
    (case c22 => k_is)
    (case k22 => k_is)
    (case m23 => k_is)
    (case l23 => k_is)
    (case c23 => k_is)
    (case k23 => k_is)
    (case m24 => k_is)
    (case l24 => k_is)
    (case c24 => k_is)
    (case k24 => k_is)
    (case m25 => k_is)
    (case l25 => k_is)
    (case c25 => k_is)
    (case k25 => k_is)
    (case m27 => k_is)
    (case l27 => k_is)
    (case c27 => k_is)
    (case k27 => k_is)
    (case m28 => k_is)
    (case l28 => k_is)
    (case c28 => k_is)
    (case k28 => k_is)
    (case m29 => k_is)
    (case l29 => k_is)
    (case c29 => k_is)
    (case k29 => k_is)
    (case m30 => k_is)
    (case l30 => k_is)
    (case c30 => k_is)
    (case k30 => k_is)
    (case m31 => k_is)
    (case l31 => k_is)
    (case c31 => k_is)
    (case k31 => k_is)
    (case m32 => k_is)
    (case l32 => k_is)
    (case c32 => k_is)
    (case k32 => k_is)
    (case m33 => k_is)
    (case l33 => k_is)
    (case c33 => k_is)
    (case k33 => k_is)
    (case m34 => k_is)
    (case l34 => k_is)
    (case c34 => k_is)
    (case k34 => k_is)
    (case m35 => k_is)
    (case l35 => k_is)
    (case c35 => k_is)
    (case k35 => k_is)
    (case m36 => k_is)
    (case l36 => k_is)
    (case c36 => k_is)
    (case k36 => k_is)
    (case m37 => k_is)
    (case l37 => k_is)
    (case c37 => k_is)
    (case k37 => k_is)
    (case m38 => k_is)
    (case l38 => k_is)
    (case c38 => k_is)
    (case k38 => k_is)
    (case m39 => k_is)
    (case l39 => k_is)
    (case c39 => k_is)
    (case k39 => k_is)
    (case m40 => k_is)
    (case l40 => k_is)
    (case c40 => k_is)
    (case k40 => k_is)
    (case z0 => k_is)
    (case z1 => k_is)
    (case z2 => k_is)
    (case z3 => k_is)
    (case z4 => k_is)
    (case z5 => k_is)
    (case z6 => k_is)
    (case z7 => k_is)
    (case z8 => k_is)
    (case z9 => k_is)
    (case z10 => k_is)
    (case z11 => k_is)
    (case z12 => k_is)
    (case z13 => k_is)
    (case z14 => k_is)

