import PyProof.Rows.All
import Wide.All
import OpenK.AllK
import Wide.FinOn
import HandS.ForMost
import HandS.ForExc
import HandS.TupAny
import HandS.Zip
import HandS.Flow
import HandS.More
import HandS.Deep
import HandS.TupLe
import HandS.Wide
import HandS.TupMul
import KE.DataEq
import HandS.IsInst
import HandS.SortInts
import HandS.Text
import HandS.Small
import HandS.Words
import HandS.WordsExc
import HandS.ExcOwn
import HandS.Conv
import KE.SortData
import KE.KDictSum
import HandS.Style
import HandS.Strs
import HandS.RaiseMore
import HandS.ReCall
import KE.KDictPairs
import KE.KDictCopyH
import PyProof.ReprRoads
import PyProof.CallFns
import HandS.Ends
import HandS.EndBits
import HandS.Lambda
import HandS.Replace
import HandS.DictTup
import HandS.DictComp
import KE.DataMinMax
import KE.KExcInit
import HandS.TryMany
import HandS.ExcField
import HandS.EndTab
import PySem.Challenge.RW_everycut_k01_whole_names_cells_and_paths
set_option Elab.async false
set_option linter.all false
set_option maxRecDepth 100000
set_option maxHeartbeats 4000000
namespace Rf
open PySem L2

/-! ### values, cells, outcomes -/
inductive W where
  | dat (d : PyData)
  | loc (n : Nat)
  | tw (ws : List W)
  | lw (ws : List W)
  | kt (ds : List PyData)
  deriving Inhabited
inductive Cell where
  | lst (ws : List W)
  | dic (kvs : List (PyData × W))
  | ins (c : Nat) (fs : List (Str × W))
  | fz (kvs : List (PyData × W))
def Cell.isFz : Cell → Bool
  | .fz _ => true
  | _ => false
abbrev Store := List Cell
abbrev Env := List (Option W)
inductive Out (α : Type) where
  | ok (a : α) (S : Store)
  | ex (c : Nat) (ws : List W) (S : Store)
  | stuck
abbrev M (α : Type) := List Nat → Env → Store → Out α
def Out.bind {α β : Type} : Out α → (α → Store → Out β) → Out β
  | .ok a S, f => f a S
  | .ex c ws S, _ => .ex c ws S
  | .stuck, _ => .stuck
@[simp] theorem Out.bind_ok {α β : Type} (a : α) (S : Store) (f : α → Store → Out β) : (Out.ok a S).bind f = f a S := rfl
@[simp] theorem Out.bind_ex {α β : Type} (c : Nat) (ws : List W) (S : Store) (f : α → Store → Out β) : (Out.ex c ws S : Out α).bind f = .ex c ws S := rfl
@[simp] theorem Out.bind_stuck {α β : Type} (f : α → Store → Out β) : (Out.stuck : Out α).bind f = .stuck := rfl
abbrev W.non : W := .dat .none
abbrev W.bl (b : Bool) : W := .dat (.bool b)
abbrev W.int (i : Int) : W := .dat (.int i)
abbrev W.str (s : Str) : W := .dat (.str s)
mutual
def W.und (n : Nat) : W → Bool
  | .dat _ => true
  | .loc k => decide (k < n)
  | .tw ws => W.undAll n ws
  | .lw ws => W.undAll n ws
  | .kt _ => true
def W.undAll (n : Nat) : List W → Bool
  | [] => true
  | w :: ws => W.und n w && W.undAll n ws
end
def Cell.und (n : Nat) : Cell → Bool
  | .lst ws => W.undAll n ws
  | .dic kvs => kvs.all fun p => p.2.und n
  | .ins _ fs => fs.all fun p => p.2.und n
  | .fz kvs => kvs.all fun p => p.2.und n
/-- all of some values are data -/
def allDat : List W → Option (List PyData)
  | [] => some []
  | .dat d :: ws => (allDat ws).map (d :: ·)
  | _ :: _ => none
def mkLst (ws : List W) : W := match allDat ws with
  | some ds => .dat (.list ds)
  | none => .lw ws
def mkTup (ws : List W) : W := match allDat ws with
  | some ds => .dat (.tuple ds)
  | none => .tw ws

/-! ### what stands for what -/
structure Grow (ρ : List Addr) (F : Hp) (ρ' : List Addr) (F' : Hp) : Prop where
  pre : ∃ t, ρ' = ρ ++ t
  ex : Same F F'
theorem Grow.refl (ρ : List Addr) (F : Hp) : Grow ρ F ρ F := ⟨⟨[], by simp⟩, Same.refl F⟩
theorem Grow.trans {ρ ρ1 ρ2 : List Addr} {F F1 F2 : Hp} (a : Grow ρ F ρ1 F1) (b : Grow ρ1 F1 ρ2 F2) : Grow ρ F ρ2 F2 := by
  obtain ⟨⟨t, e⟩, x⟩ := a
  obtain ⟨⟨u, e'⟩, y⟩ := b
  exact ⟨⟨t ++ u, by rw [e', e, List.append_assoc]⟩, x.trans y⟩
theorem Grow.at {ρ ρ' : List Addr} {F F' : Hp} (a : Grow ρ F ρ' F') {n : Nat} {x : Addr} (h : ρ[n]? = some x) : ρ'[n]? = some x := by
  obtain ⟨⟨t, e⟩, _⟩ := a
  subst e
  have hl := (List.getElem?_eq_some_iff.mp h).1
  rw [List.getElem?_append_left hl]
  exact h
/-- what stays as things grow -/
abbrev Stays (P : List Addr → Hp → Prop) : Prop := ∀ ρ F ρ' F', Grow ρ F ρ' F' → P ρ F → P ρ' F'
structure Gx where
  K : PySem.W.Frag
  cls : Nat → Addr
  fld : Nat → Str
  T : List (Addr × Str)
  more : List Addr → Hp → Prop
  stays : Stays more
/-- something more is known -/
abbrev Gx.pin (g : Gx) (P : List Addr → Hp → Prop) (h : Stays P) : Gx := ⟨g.K, g.cls, g.fld, g.T, fun ρ F => g.more ρ F ∧ P ρ F, fun _ _ _ _ gr x => ⟨g.stays _ _ _ _ gr x.1, h _ _ _ _ gr x.2⟩⟩
/-- lists, dicts, sets -/
def Mu : Option HO → Prop
  | some (.lst _) => True
  | some (.dK _) => True
  | some (.dT _) => True
  | some (.set _ _) => True
  | _ => False
def kD : Key → PyData
  | .inl i => .int i
  | .inr x => .str x
mutual
inductive Rp (K : PySem.W.Frag) (F : Hp) : V → PyData → Prop
  | non : Rp K F .non .none
  | bl (b : Bool) : Rp K F (.bl b) (.bool b)
  | int (i : Int) : Rp K F (.int i) (.int i)
  | str (x : Str) : Rp K F (.str x) (.str x)
  | lst {a : Addr} {xs : List V} {ds : List PyData} : F a = some (.lst xs) → RpAll K F xs ds → Rp K F (.ref a) (.list ds)
  | tup {a : Addr} {xs : List V} {ds : List PyData} : F a = some (.tup xs) → RpAll K F xs ds → Rp K F (.ref a) (.tuple ds)
  | dicK {a : Addr} {o : Obj} {kvs : List (Key × V)} {ds : List (PyData × PyData)} : F a = some (.frz o (.dK kvs)) → RpKV K F (kvs.map fun p => (kD p.1, p.2)) ds → Rp K F (.ref a) (.dict ds)
  | dicT {a : Addr} {o : Obj} {kvs : List (List Key × V)} {ds : List (PyData × PyData)} : F a = some (.frz o (.dT kvs)) → RpKV K F (kvs.map fun p => (.tuple (p.1.map kD), p.2)) ds → Rp K F (.ref a) (.dict ds)
inductive RpAll (K : PySem.W.Frag) (F : Hp) : List V → List PyData → Prop
  | nil : RpAll K F [] []
  | cons {v : V} {vs : List V} {d : PyData} {ds : List PyData} : Rp K F v d → RpAll K F vs ds → RpAll K F (v :: vs) (d :: ds)
inductive RpKV (K : PySem.W.Frag) (F : Hp) : List (PyData × V) → List (PyData × PyData) → Prop
  | nil : RpKV K F [] []
  | cons {k : PyData} {v : V} {vs : List (PyData × V)} {d : PyData} {ds : List (PyData × PyData)} : Rp K F v d → RpKV K F vs ds → RpKV K F ((k, v) :: vs) ((k, d) :: ds)
end
mutual
inductive Is (K : PySem.W.Frag) (ρ : List Addr) (F : Hp) : V → W → Prop
  | dat {v : V} {d : PyData} : Rp K F v d → Is K ρ F v (.dat d)
  | loc {a : Addr} {n : Nat} : ρ[n]? = some a → Is K ρ F (.ref a) (.loc n)
  | tw {a : Addr} {vs : List V} {ws : List W} : SqT K F a vs → IsAll K ρ F vs ws → Is K ρ F (.ref a) (.tw ws)
  | lw {a : Addr} {vs : List V} {ws : List W} : SqL K F a vs → IsAll K ρ F vs ws → Is K ρ F (.ref a) (.lw ws)
  | kt {a : Addr} {vs : List V} {ds : List PyData} {o : Obj} : F a = some (.frz o (.tup vs)) → o.cls = .type "tuple" → o.dict = none → RpAll K F vs ds → Is K ρ F (.ref a) (.kt ds)
inductive IsAll (K : PySem.W.Frag) (ρ : List Addr) (F : Hp) : List V → List W → Prop
  | nil : IsAll K ρ F [] []
  | cons {v : V} {vs : List V} {w : W} {ws : List W} : Is K ρ F v w → IsAll K ρ F vs ws → IsAll K ρ F (v :: vs) (w :: ws)
end
inductive IsKV (K : PySem.W.Frag) (ρ : List Addr) (F : Hp) : List (PyData × V) → List (PyData × W) → Prop
  | nil : IsKV K ρ F [] []
  | cons {k : PyData} {v : V} {vs : List (PyData × V)} {w : W} {ws : List (PyData × W)} : Is K ρ F v w → IsKV K ρ F vs ws → IsKV K ρ F ((k, v) :: vs) ((k, w) :: ws)
inductive IsFs (K : PySem.W.Frag) (ρ : List Addr) (F : Hp) : List (Str × V) → List (Str × W) → Prop
  | nil : IsFs K ρ F [] []
  | cons {k : Str} {v : V} {vs : List (Str × V)} {w : W} {ws : List (Str × W)} : Is K ρ F v w → IsFs K ρ F vs ws → IsFs K ρ F ((k, v) :: vs) ((k, w) :: ws)
def CellOk (g : Gx) (ρ : List Addr) (F H : Hp) (a : Addr) : Cell → Prop
  | .lst ws => ∃ vs, H a = some (.lst vs) ∧ IsAll g.K ρ F vs ws
  | .dic ws => (∃ kvs : List (Key × V), H a = some (.dK kvs) ∧ IsKV g.K ρ F (kvs.map fun p => (kD p.1, p.2)) ws) ∨
      ∃ kvs : List (List Key × V), H a = some (.dT kvs) ∧ IsKV g.K ρ F (kvs.map fun p => (.tuple (p.1.map kD), p.2)) ws
  | .ins c fs => ∃ dx gs, H a = some (.ins (g.cls c) dx gs) ∧ IsFs g.K ρ F gs fs
  | .fz ws => (∃ (o : Obj) (kvs : List (Key × V)), H a = some (.frz o (.dK kvs)) ∧ F a = some (.frz o (.dK kvs)) ∧ IsKV g.K ρ F (kvs.map fun p => (kD p.1, p.2)) ws) ∨
      ∃ (o : Obj) (kvs : List (List Key × V)), H a = some (.frz o (.dT kvs)) ∧ F a = some (.frz o (.dT kvs)) ∧ IsKV g.K ρ F (kvs.map fun p => (.tuple (p.1.map kD), p.2)) ws
structure Sim (g : Gx) (bs : List Nat) (ρ : List Addr) (F N : Hp) (S : Store) (H : Hp) : Prop where
  len : ρ.length = S.length
  nd : ρ.Nodup
  ex : Same F H
  fr : ∀ (n : Nat) (c : Cell) (a : Addr), S[n]? = some c → ρ[n]? = some a → c.isFz = false → F a = none
  cell : ∀ (n : Nat) (c : Cell) (a : Addr), S[n]? = some c → ρ[n]? = some a → CellOk g ρ F H a c
  hid : Same N H
  nf : ∀ a o, N a = some o → F a = none ∧ a ∉ ρ
  nl : ∀ a o, N a = some o → Mu (some o)
  bot : ∀ b ∈ bs, b ≤ S.length ∧ ∀ (k : Nat) (c : Cell), k < b → S[k]? = some c → c.und b = true
  tab : LamX.Tabs g.T H
  nt : ∀ a ps, F a ≠ some (.tbl ps)
theorem Same.sqT {K : PySem.W.Frag} {H H' : Hp} {a : Addr} {xs : List V} (e : Same H H') (h : SqT K H a xs) : SqT K H' a xs := by
  rcases h with (h | ⟨o, h⟩) | h
  · exact .inl (.inl (e _ _ h))
  · exact .inl (.inr ⟨o, e _ _ h⟩)
  · exact .inr h
section
variable {K : PySem.W.Frag} {F F' : Hp} {ρ ρ' : List Addr}
mutual
theorem Rp.mono (e : Same F F') : ∀ {d : PyData} {v : V}, Rp K F v d → Rp K F' v d
  | .none, _, h => by cases h; exact .non
  | .bool b, _, h => by cases h; exact .bl b
  | .int i, _, h => by cases h; exact .int i
  | .str x, _, h => by cases h; exact .str x
  | .list ds, _, h => by
    cases h with
    | lst s r => exact .lst (e _ _ s) (RpAll.mono e r)
  | .tuple ds, _, h => by
    cases h with
    | tup s r => exact .tup (e _ _ s) (RpAll.mono e r)
  | .dict ds, _, h => by
    cases h with
    | dicK s r => exact .dicK (e _ _ s) (RpKV.mono e r)
    | dicT s r => exact .dicT (e _ _ s) (RpKV.mono e r)
theorem RpAll.mono (e : Same F F') : ∀ {ds : List PyData} {vs : List V}, RpAll K F vs ds → RpAll K F' vs ds
  | [], _, h => by cases h; exact .nil
  | d :: ds, _, h => by
    cases h with
    | cons a b => exact .cons (Rp.mono e a) (RpAll.mono e b)
theorem RpKV.mono (e : Same F F') : ∀ {ds : List (PyData × PyData)} {vs : List (PyData × V)}, RpKV K F vs ds → RpKV K F' vs ds
  | [], _, h => by cases h; exact .nil
  | (k, d) :: ds, _, h => by
    cases h with
    | cons a b => exact .cons (Rp.mono e a) (RpKV.mono e b)
end
mutual
theorem Is.mono (gr : Grow ρ F ρ' F') : ∀ {w : W} {v : V}, Is K ρ F v w → Is K ρ' F' v w
  | .dat d, _, h => by
    cases h with
    | dat r => exact .dat (r.mono gr.ex)
  | .loc n, _, h => by
    cases h with
    | loc r => exact .loc (gr.at r)
  | .tw ws, _, h => by
    cases h with
    | tw s r => exact .tw (Same.sqT gr.ex s) (IsAll.mono gr r)
  | .lw ws, _, h => by
    cases h with
    | lw s r => exact .lw (gr.ex.seq s) (IsAll.mono gr r)
  | .kt ds, _, h => by
    cases h with
    | kt s c d r => exact .kt (gr.ex _ _ s) c d (r.mono gr.ex)
theorem IsAll.mono (gr : Grow ρ F ρ' F') : ∀ {ws : List W} {vs : List V}, IsAll K ρ F vs ws → IsAll K ρ' F' vs ws
  | [], _, h => by cases h; exact .nil
  | w :: ws, _, h => by
    cases h with
    | cons a b => exact .cons (Is.mono gr a) (IsAll.mono gr b)
end
theorem IsKV.mono (gr : Grow ρ F ρ' F') : ∀ {ws : List (PyData × W)} {vs : List (PyData × V)}, IsKV K ρ F vs ws → IsKV K ρ' F' vs ws
  | [], _, h => by cases h; exact .nil
  | _ :: _, _, h => by
    cases h with
    | cons a b => exact .cons (a.mono gr) (IsKV.mono gr b)
theorem IsFs.mono (gr : Grow ρ F ρ' F') : ∀ {ws : List (Str × W)} {vs : List (Str × V)}, IsFs K ρ F vs ws → IsFs K ρ' F' vs ws
  | [], _, h => by cases h; exact .nil
  | _ :: _, _, h => by
    cases h with
    | cons a b => exact .cons (a.mono gr) (IsFs.mono gr b)
theorem IsAll.len : ∀ {ws : List W} {vs : List V}, IsAll K ρ F vs ws → vs.length = ws.length
  | [], _, h => by cases h; rfl
  | _ :: _, _, h => by
    cases h with
    | cons a b => simp [IsAll.len b]
theorem RpAll.len : ∀ {ws : List PyData} {vs : List V}, RpAll K F vs ws → vs.length = ws.length
  | [], _, h => by cases h; rfl
  | _ :: _, _, h => by
    cases h with
    | cons a b => simp [RpAll.len b]
theorem IsAll.dats : ∀ {ws : List W} {vs : List V} {ds : List PyData}, IsAll K ρ F vs ws → allDat ws = some ds → RpAll K F vs ds
  | [], _, _, h, e => by cases h; simp [allDat] at e; subst e; exact .nil
  | .dat d :: ws, _, _, h, e => by
    cases h with
    | cons a b =>
      simp only [allDat, Option.map_eq_some_iff] at e
      obtain ⟨ds, e, rfl⟩ := e
      cases a with
      | dat r => exact .cons r (IsAll.dats b e)
  | .loc _ :: _, _, _, _, e => by simp [allDat] at e
  | .tw _ :: _, _, _, _, e => by simp [allDat] at e
  | .lw _ :: _, _, _, _, e => by simp [allDat] at e
  | .kt _ :: _, _, _, _, e => by simp [allDat] at e
theorem RpAll.isAll : ∀ {ds : List PyData} {vs : List V}, RpAll K F vs ds → IsAll K ρ F vs (ds.map .dat)
  | [], _, h => by cases h; exact .nil
  | _ :: _, _, h => by
    cases h with
    | cons a b => exact .cons (.dat a) (RpAll.isAll b)
theorem allDat_map (ds : List PyData) : allDat (ds.map .dat) = some ds := by
  induction ds with
  | nil => rfl
  | cons d ds ih => simp [allDat, ih]
theorem allDat_eq : ∀ {ws : List W} {ds : List PyData}, allDat ws = some ds → ws = ds.map .dat
  | [], _, e => by simp [allDat] at e; subst e; rfl
  | .dat d :: ws, _, e => by
    simp only [allDat, Option.map_eq_some_iff] at e
    obtain ⟨ds, e, rfl⟩ := e
    rw [allDat_eq e]; rfl
  | .loc _ :: _, _, e => by simp [allDat] at e
  | .tw _ :: _, _, e => by simp [allDat] at e
  | .lw _ :: _, _, e => by simp [allDat] at e
  | .kt _ :: _, _, e => by simp [allDat] at e
@[simp] theorem mkTup_dat (ds : List PyData) : mkTup (ds.map .dat) = .dat (.tuple ds) := by simp [mkTup, allDat_map]
@[simp] theorem mkLst_dat (ds : List PyData) : mkLst (ds.map .dat) = .dat (.list ds) := by simp [mkLst, allDat_map]
theorem is_mkLst {a : Addr} {vs : List V} {ws : List W} (s : F a = some (.lst vs)) (r : IsAll K ρ F vs ws) : Is K ρ F (.ref a) (mkLst ws) := by
  unfold mkLst
  split
  · rename_i ds e; exact .dat (.lst s (r.dats e))
  · exact .lw (SqL.of s) r
/-- what is known of a tuple is forgotten -/
def W.weak : W → W
  | .kt ds => .tw (ds.map .dat)
  | w => w
@[simp] theorem W.weak_dat (d : PyData) : (W.dat d).weak = .dat d := rfl
@[simp] theorem W.weak_loc (n : Nat) : (W.loc n).weak = .loc n := rfl
@[simp] theorem W.weak_tw (ws : List W) : (W.tw ws).weak = .tw ws := rfl
@[simp] theorem W.weak_lw (ws : List W) : (W.lw ws).weak = .lw ws := rfl
@[simp] theorem W.weak_kt (ds : List PyData) : (W.kt ds).weak = .tw (ds.map .dat) := rfl
theorem Is.weak {v : V} {w : W} (h : Is K ρ F v w) : Is K ρ F v w.weak := by
  cases w with
  | kt ds =>
    cases h with
    | kt s c d r => exact .tw (.inl (.inr ⟨_, s⟩)) r.isAll
  | dat d => exact h
  | loc n => exact h
  | tw ws => exact h
  | lw ws => exact h
theorem is_mkTup {a : Addr} {vs : List V} {ws : List W} (s : F a = some (.tup vs)) (r : IsAll K ρ F vs ws) : Is K ρ F (.ref a) (mkTup ws) := by
  unfold mkTup
  split
  · rename_i ds e; exact .dat (.tup s (r.dats e))
  · exact .tw (SqT.of s) r
end
/-! ### a new frozen object; a new cell -/
theorem ne_mem {l : List Addr} {a p : Addr} (h : a ∈ l) (n : p ∉ l) : a ≠ p := fun z => n (by rw [← z]; exact h)
theorem same_new {H : Hp} {p : Addr} {o : HO} (h : H p = none) : Same H (upd H p o) := fun a u e => by
  rw [upd_ne (ne_of_none e h)]; exact e
section
variable {g : Gx} {bs : List Nat} {ρ : List Addr} {F N H : Hp} {S : Store}
theorem CellOk.mono {F' H' : Hp} {ρ' : List Addr} {a : Addr} {c : Cell} (gr : Grow ρ F ρ' F') (h : H a = H' a) (x : CellOk g ρ F H a c) : CellOk g ρ' F' H' a c := by
  cases c with
  | lst ws => obtain ⟨vs, e, r⟩ := x; exact ⟨vs, by rw [← h]; exact e, r.mono gr⟩
  | dic ws =>
    rcases x with ⟨k, e, r⟩ | ⟨k, e, r⟩
    · exact .inl ⟨k, by rw [← h]; exact e, r.mono gr⟩
    · exact .inr ⟨k, by rw [← h]; exact e, r.mono gr⟩
  | ins c fs => obtain ⟨dx, gs, e, r⟩ := x; exact ⟨dx, gs, by rw [← h]; exact e, r.mono gr⟩
  | fz ws =>
    rcases x with ⟨o, k, e, f, r⟩ | ⟨o, k, e, f, r⟩
    · exact .inl ⟨o, k, by rw [← h]; exact e, gr.ex _ _ f, r.mono gr⟩
    · exact .inr ⟨o, k, by rw [← h]; exact e, gr.ex _ _ f, r.mono gr⟩
theorem CellOk.some {a : Addr} {c : Cell} (x : CellOk g ρ F H a c) : ∃ o, H a = some o := by
  cases c with
  | lst ws => obtain ⟨vs, e, r⟩ := x; exact ⟨_, e⟩
  | dic ws =>
    rcases x with ⟨k, e, r⟩ | ⟨k, e, r⟩
    · exact ⟨_, e⟩
    · exact ⟨_, e⟩
  | ins c fs => obtain ⟨dx, gs, e, r⟩ := x; exact ⟨_, e⟩
  | fz ws =>
    rcases x with ⟨o, k, e, f, r⟩ | ⟨o, k, e, f, r⟩
    · exact ⟨_, e⟩
    · exact ⟨_, e⟩
/-- neither a table nor a thing of another kind -/
def NT (u : HO) : Prop := (∀ ps, u ≠ .tbl ps) ∧ ∀ P, u ≠ .ext P
theorem Mu.nt {u : HO} (h : Mu (some u)) : NT u := by
  cases u <;> first | exact h.elim | exact ⟨fun _ z => (nomatch z), fun _ z => (nomatch z)⟩
theorem CellOk.nt {a : Addr} {c : Cell} (x : CellOk g ρ F H a c) : ∀ u : HO, H a = .some u → NT u := by
  intro u e
  cases c with
  | lst ws => obtain ⟨vs, e', r⟩ := x; rw [e'] at e; cases e; exact ⟨fun _ z => (nomatch z), fun _ z => (nomatch z)⟩
  | dic ws => rcases x with ⟨k, e', r⟩ | ⟨k, e', r⟩ <;> (rw [e'] at e; cases e; exact ⟨fun _ z => (nomatch z), fun _ z => (nomatch z)⟩)
  | ins c fs => obtain ⟨dx, gs, e', r⟩ := x; rw [e'] at e; cases e; exact ⟨fun _ z => (nomatch z), fun _ z => (nomatch z)⟩
  | fz ws => rcases x with ⟨o, k, e', f, r⟩ | ⟨o, k, e', f, r⟩ <;> (rw [e'] at e; cases e; exact ⟨fun _ z => (nomatch z), fun _ z => (nomatch z)⟩)
theorem tabs_put {T : List (Addr × Str)} {a : Addr} {o : HO} (h : ∀ u : HO, H a = .some u → NT u) (t : LamX.Tabs T H) : LamX.Tabs T (upd H a o) := fun p hp => by
  obtain ⟨ps, h1, h2, h3⟩ := t p hp
  have off : ∀ (b : Addr) (u : HO), H b = .some u → ¬ NT u → b ≠ a := fun b u e n z => by subst z; exact n (h u e)
  refine ⟨ps, by rw [upd_ne (off _ _ h1 fun z => z.1 ps rfl)]; exact h1, h2, fun pos cv hc => ?_⟩
  obtain ⟨c, e1, e2⟩ := h3 pos cv hc
  exact ⟨c, e1, by rw [upd_ne (off _ _ e2 fun z => z.2 _ rfl)]; exact e2⟩
theorem tabs_new {T : List (Addr × Str)} {a : Addr} {o : HO} (h : H a = none) (t : LamX.Tabs T H) : LamX.Tabs T (upd H a o) := tabs_put (fun u e => by rw [h] at e; cases e) t
theorem Sim.has (s : Sim g bs ρ F N S H) {a : Addr} (ha : a ∈ ρ) : ∃ o, H a = some o := by
  obtain ⟨n, hn, e⟩ := List.mem_iff_getElem.mp ha
  have hn' : n < S.length := by rw [← s.len]; exact hn
  exact (s.cell n S[n] a (by simp [hn']) (by rw [List.getElem?_eq_getElem hn, e])).some
theorem nt_upd {p : Addr} {o : HO} (h : ∀ a ps, F a ≠ .some (.tbl ps)) (no : ∀ ps, o ≠ .tbl ps) : ∀ a ps, upd F p o a ≠ .some (.tbl ps) := fun a ps e => by
  by_cases z : a = p
  · subst z; rw [upd_same] at e; cases e; exact no _ rfl
  · rw [upd_ne z] at e; exact h a ps e
theorem Sim.frozen (s : Sim g bs ρ F N S H) {p : Addr} {o : HO} (hp : H p = none) (no : ∀ ps, o ≠ .tbl ps := by exact fun _ z => nomatch z) : Sim g bs ρ (upd F p o) N S (upd H p o) ∧ Grow ρ F ρ (upd F p o) := by
  have fp : F p = none := s.ex.free hp
  have np : p ∉ ρ := fun z => by obtain ⟨o, e⟩ := s.has z; rw [hp] at e; cases e
  have gr : Grow ρ F ρ (upd F p o) := ⟨⟨[], by simp⟩, same_new fp⟩
  have np2 : ∀ a o, N a = some o → a ≠ p := fun a u e z => by subst z; rw [s.hid a u e] at hp; cases hp
  refine ⟨⟨s.len, s.nd, fun a u e => ?_, fun n c a e1 e2 e3 => ?_, fun n c a e1 e2 => ?_, fun a u e => ?_, fun a u e => ?_, s.nl, s.bot, tabs_new hp s.tab, nt_upd s.nt no⟩, gr⟩
  rotate_left 3
  · rw [upd_ne (np2 a u e)]; exact s.hid a u e
  · rw [upd_ne (np2 a u e)]; exact s.nf a u e
  · by_cases h : a = p
    · subst h; rw [upd_same] at e ⊢; exact e
    · rw [upd_ne h] at e ⊢; exact s.ex a u e
  · rw [upd_ne (ne_mem (List.mem_of_getElem? e2) np)]; exact s.fr n c a e1 e2 e3
  · have ha : a ∈ ρ := List.mem_of_getElem? e2
    exact (s.cell n c a e1 e2).mono gr (by rw [upd_ne (ne_mem ha np)])
/-- another heap with the same cells and all that is frozen -/
theorem Sim.heap {H' : Hp} (s : Sim g bs ρ F N S H) (k : Same H H') : Sim g bs ρ F N S H' :=
  ⟨s.len, s.nd, s.ex.trans k, s.fr, fun n c a e1 e2 => by
    have x := s.cell n c a e1 e2
    obtain ⟨o, e⟩ := x.some
    exact x.mono (Grow.refl ρ F) (by rw [e, k a o e]), s.hid.trans k, s.nf, s.nl, s.bot, s.tab.ext k, s.nt⟩
theorem Sim.newCell {p : Addr} {o : HO} {c : Cell} (s : Sim g bs ρ F N S H) (hp : H p = none) (hc : CellOk g (ρ ++ [p]) F (upd H p o) p c) :
    Sim g bs (ρ ++ [p]) F N (S ++ [c]) (upd H p o) ∧ Grow ρ F (ρ ++ [p]) F := by
  have fp : F p = none := s.ex.free hp
  have np : p ∉ ρ := fun z => by obtain ⟨o, e⟩ := s.has z; rw [hp] at e; cases e
  have gr : Grow ρ F (ρ ++ [p]) F := ⟨⟨[p], rfl⟩, Same.refl F⟩
  have np2 : ∀ a o, N a = some o → a ≠ p := fun a u e z => by subst z; rw [s.hid a u e] at hp; cases hp
  refine ⟨⟨by simp [s.len], ?_, fun a u e => ?_, fun n c' a e1 e2 e3 => ?_, fun n c' a e1 e2 => ?_, fun a u e => ?_, fun a u e => ?_, s.nl, fun b hb => ?_, tabs_new hp s.tab, s.nt⟩, gr⟩
  rotate_left 4
  · rw [upd_ne (np2 a u e)]; exact s.hid a u e
  · refine ⟨(s.nf a u e).1, fun ha => ?_⟩
    rcases List.mem_append.mp ha with ha | ha
    · exact (s.nf a u e).2 ha
    · simp at ha; exact np2 a u e ha
  rotate_left 1
  · rw [List.nodup_append]; exact ⟨s.nd, by simp, fun a ha b hb z => by simp at hb; subst hb; subst z; exact np ha⟩
  · have h : a ≠ p := fun z => by subst z; rw [fp] at e; cases e
    rw [upd_ne h]; exact s.ex a u e
  · by_cases hn : n < S.length
    · rw [List.getElem?_append_left hn] at e1
      rw [List.getElem?_append_left (by rw [s.len]; exact hn)] at e2
      exact s.fr n c' a e1 e2 e3
    · rcases List.mem_append.mp (List.mem_of_getElem? e2) with ha | ha
      · have hl := (List.getElem?_eq_some_iff.mp e1).1
        have e : n = S.length := by simp at hl; omega
        subst e
        rw [← s.len] at e2; simp at e2
        subst e2; exact fp
      · simp at ha; subst ha; exact fp
  · by_cases hn : n < S.length
    · rw [List.getElem?_append_left hn] at e1
      rw [List.getElem?_append_left (by rw [s.len]; exact hn)] at e2
      have ha : a ∈ ρ := List.mem_of_getElem? e2
      exact (s.cell n c' a e1 e2).mono gr (by rw [upd_ne (ne_mem ha np)])
    · have hl := (List.getElem?_eq_some_iff.mp e1).1
      have e : n = S.length := by simp at hl; omega
      subst e
      simp at e1
      rw [← s.len] at e2; simp at e2
      subst e1; subst e2
      exact hc
  · obtain ⟨h1, h2⟩ := s.bot b hb
    refine ⟨by simp; omega, fun k c' hk e => h2 k c' hk ?_⟩
    rw [List.getElem?_append_left (by omega)] at e
    exact e
/-- a cell is written -/
theorem Sim.write {n : Nat} {a : Addr} {o : HO} {c c0 : Cell} (s : Sim g bs ρ F N S H) (h0 : S[n]? = some c0) (hz : c0.isFz = false) (hn : ρ[n]? = some a) (hc : CellOk g ρ F (upd H a o) a c) (hb : ∀ b ∈ bs, n < b → c.und b = true) :
    Sim g bs ρ F N (S.set n c) (upd H a o) := by
  have fa : F a = none := s.fr n c0 a h0 hn hz
  have hl := (List.getElem?_eq_some_iff.mp hn).1
  refine ⟨by simp [s.len], s.nd, fun b u e => ?_, fun m c' b e1 e2 e3 => (by
    by_cases hm : m = n
    · subst hm; rw [hn] at e2; cases e2; exact fa
    · rw [List.getElem?_set_ne (Ne.symm hm)] at e1; exact s.fr m c' b e1 e2 e3), fun m c' b e1 e2 => ?_, fun b u e => ?_, s.nf, s.nl, fun b hb' => ?_, tabs_put (CellOk.nt (s.cell n c0 a h0 hn)) s.tab, s.nt⟩
  rotate_left 2
  · have h : b ≠ a := fun z => by subst z; exact (s.nf b u e).2 (List.mem_of_getElem? hn)
    rw [upd_ne h]; exact s.hid b u e
  rotate_left 1
  · have h : b ≠ a := fun z => by subst z; rw [fa] at e; cases e
    rw [upd_ne h]; exact s.ex b u e
  · by_cases hm : m = n
    · subst hm
      rw [hn] at e2; cases e2
      rw [List.getElem?_set_self (by rw [← s.len]; exact hl)] at e1
      cases e1
      exact hc
    · rw [List.getElem?_set_ne (Ne.symm hm)] at e1
      have ne : b ≠ a := fun z => by
        subst z
        exact hm (nodup_ixA s.nd e2 hn)
      exact (s.cell m c' b e1 e2).mono (Grow.refl ρ F) (by rw [upd_ne ne])
  · obtain ⟨h1, h2⟩ := s.bot b hb'
    refine ⟨by simpa using h1, fun k c' hk e => ?_⟩
    by_cases hm : k = n
    · subst hm
      rw [List.getElem?_set_self (by rw [← s.len]; exact hl)] at e
      cases e
      exact hb b hb' hk
    · rw [List.getElem?_set_ne (Ne.symm hm)] at e
      exact h2 k c' hk e
where
  nodup_ixA {l : List Addr} (nd : l.Nodup) {i j : Nat} {x : Addr} (a : l[i]? = some x) (b : l[j]? = some x) : i = j := by
    obtain ⟨h1, e1⟩ := List.getElem?_eq_some_iff.mp a
    obtain ⟨h2, e2⟩ := List.getElem?_eq_some_iff.mp b
    exact (List.getElem_inj nd).mp (e1.trans e2.symm)
end
end Rf

namespace Rf
open PySem L2

theorem _root_.L2.PE.imp {X : Cx} {e : Expr} {t t' : TE} (h : PE X e t) (i : ∀ σ H Q, t' σ H Q → t σ H Q) : PE X e t' := ⟨fun pins s σ H Q I q => h.run pins s σ H Q I (i σ H Q q)⟩
theorem _root_.L2.PT.imp {X : Cx} {e : Expr} {t t' : TT} (h : PT X e t) (i : ∀ σ H Q, t' σ H Q → t σ H Q) : PT X e t' := ⟨fun pins s σ H Q I q => h.run pins s σ H Q I (i σ H Q q)⟩
theorem _root_.L2.PW.imp {X : Cx} {e : Expr} {t t' : TT} (h : PW X e t) (i : ∀ σ H Q, t' σ H Q → t σ H Q) : PW X e t' := ⟨fun wh pins s σ H Q I q => h.run wh pins s σ H Q I (i σ H Q q)⟩
theorem _root_.L2.PA.imp {X : Cx} {es : List Expr} {t t' : TA} (h : PA X es t) (i : ∀ σ H Q, t' σ H Q → t σ H Q) : PA X es t' := ⟨fun pos pins s σ H Q I q => h.run pos pins s σ H Q I (i σ H Q q)⟩
theorem _root_.L2.PS.imp {X : Cx} {st : Stmt} {t t' : TS} (h : PS X st t) (i : ∀ D σ H, t' D σ H → t D σ H) : PS X st t' := ⟨fun pins s σ H D I q => h.run pins s σ H D I (i D σ H q)⟩
theorem _root_.L2.PSs.imp {X : Cx} {st : List Stmt} {t t' : TS} (h : PSs X st t) (i : ∀ D σ H, t' D σ H → t D σ H) : PSs X st t' := ⟨fun pins s σ H D I q => h.run pins s σ H D I (i D σ H q)⟩
theorem _root_.L2.PG.imp {X : Cx} {tg : Expr} {t t' : TG} (h : PG X tg t) (i : ∀ v σ H Q, t' v σ H Q → t v σ H Q) : PG X tg t' := ⟨fun pins s σ H v u Q I r q => h.run pins s σ H v u Q I r (i v σ H Q q)⟩
theorem _root_.L2.PI.imp {X : Cx} {tg it : Expr} {t t' : TI} (h : PI X tg it t) (i : ∀ σ H R, t' σ H R → t σ H R) : PI X tg it t' := ⟨fun pins s σ H R I q => h.run pins s σ H R I (i σ H R q)⟩

structure EnvR (g : Gx) (ρ : List Addr) (F : Hp) (σ : St) (env : Env) : Prop where
  len : σ.length = env.length
  at_ : ∀ (i : Nat) (w : W), env[i]? = some (some w) → ∃ v, σ[i]? = some (some v) ∧ Is g.K ρ F v w
  more : g.more ρ F
theorem EnvR.mono {g : Gx} {ρ ρ' : List Addr} {F F' : Hp} {σ : St} {env : Env} (gr : Grow ρ F ρ' F') (e : EnvR g ρ F σ env) : EnvR g ρ' F' σ env :=
  ⟨e.len, fun i w h => let ⟨v, a, b⟩ := e.at_ i w h; ⟨v, a, b.mono gr⟩, g.stays _ _ _ _ gr e.more⟩
theorem EnvR.set {g : Gx} {ρ : List Addr} {F : Hp} {σ : St} {env : Env} {v : V} {w : W} (e : EnvR g ρ F σ env) (i : Nat) (h : Is g.K ρ F v w) : EnvR g ρ F (σ.set i (some v)) (env.set i (some w)) := by
  refine ⟨by simp [e.len], fun j x hj => ?_, e.more⟩
  by_cases z : i = j
  · subst z
    have hl := (List.getElem?_eq_some_iff.mp hj).1
    simp only [List.length_set] at hl
    rw [List.getElem?_set_self hl] at hj
    cases hj
    exact ⟨v, List.getElem?_set_self (by rw [e.len]; exact hl), h⟩
  · rw [List.getElem?_set_ne z] at hj ⊢
    exact e.at_ j x hj
def ExR (g : Gx) (c : Nat) (ρ : List Addr) (F H : Hp) (d : Option Addr) : List W → Prop
  | [] => d = none
  | w :: _ => ∃ a v, d = some a ∧ H a = some (.xd [(g.fld c, v)]) ∧ Is g.K ρ F v w
/-- what an outcome must lead to -/
def Post {α β : Type} (g : Gx) (B : WX) (R : List Addr → Hp → β → α → Prop) (bs : List Nat) (ρ : List Addr) (F N : Hp) (σ : St) (Q : β → Hp → Prop) : Out α → Prop
  | .ok w S' => ∀ ρ' F' H' v, Grow ρ F ρ' F' → Sim g bs ρ' F' N S' H' → R ρ' F' v w → Q v H'
  | .ex c ws S' => ∀ ρ' F' H' d, Grow ρ F ρ' F' → Sim g bs ρ' F' N S' H' → ExR g c ρ' F' H' d ws → B (.ref (g.cls c)) d σ H'
  | .stuck => False
def rdG {α β : Type} (g : Gx) (B : WX) (R : List Addr → Hp → β → α → Prop) (m : M α) : St → Hp → (β → Hp → Prop) → Prop := fun σ H Q =>
  ∃ bs ρ F N env S, Sim g bs ρ F N S H ∧ EnvR g ρ F σ env ∧ Post g B R bs ρ F N σ Q (m bs env S)
abbrev RW (g : Gx) : List Addr → Hp → V → W → Prop := fun ρ F v w => Is g.K ρ F v w
abbrev RWs (g : Gx) : List Addr → Hp → List V → List W → Prop := fun ρ F v w => IsAll g.K ρ F v w
abbrev RB : List Addr → Hp → Bool → Bool → Prop := fun _ _ a b => a = b
abbrev rd (g : Gx) (B : WX) (m : M W) : TE := rdG g B (RW g) m
abbrev rdT (g : Gx) (B : WX) (m : M Bool) : TT := rdG g B RB m
abbrev rdA (g : Gx) (B : WX) (m : M (List W)) : TA := rdG g B (RWs g) m
theorem Post.grow {α β : Type} {g : Gx} {B : WX} {R : List Addr → Hp → β → α → Prop} {bs : List Nat} {ρ ρ1 : List Addr} {F F1 N : Hp} {σ : St} {Q : β → Hp → Prop} {o : Out α} (gr : Grow ρ F ρ1 F1) (h : Post g B R bs ρ F N σ Q o) : Post g B R bs ρ1 F1 N σ Q o := by
  cases o with
  | ok a S => exact fun ρ' F' H' v g1 s r => h ρ' F' H' v (gr.trans g1) s r
  | ex c ws S => exact fun ρ' F' H' d g1 s r => h ρ' F' H' d (gr.trans g1) s r
  | stuck => exact h
theorem Post.imp {α β : Type} {g : Gx} {B : WX} {R : List Addr → Hp → β → α → Prop} {bs : List Nat} {ρ : List Addr} {F N : Hp} {σ : St} {Q Q' : β → Hp → Prop} {o : Out α} (h : Post g B R bs ρ F N σ Q o) (i : ∀ v H, Q v H → Q' v H) : Post g B R bs ρ F N σ Q' o := by
  cases o with
  | ok a S => exact fun ρ' F' H' v g1 s r => i _ _ (h ρ' F' H' v g1 s r)
  | ex c ws S => exact h
  | stuck => exact h
/-- one after another -/
theorem Post.bind {α β γ δ : Type} {g : Gx} {B : WX} {R1 : List Addr → Hp → β → α → Prop} {R2 : List Addr → Hp → δ → γ → Prop} {bs : List Nat} {ρ : List Addr} {F N : Hp} {σ : St} {Q : δ → Hp → Prop} {o : Out α} {f : α → Store → Out γ}
    (h : Post g B R2 bs ρ F N σ Q (o.bind f)) :
    Post g B R1 bs ρ F N σ (fun v H1 => ∃ ρ' F' a S', Grow ρ F ρ' F' ∧ Sim g bs ρ' F' N S' H1 ∧ R1 ρ' F' v a ∧ Post g B R2 bs ρ' F' N σ Q (f a S')) o := by
  cases o with
  | ok a S1 => exact fun ρ' F' H' v gr s' r => ⟨ρ', F', a, S1, gr, s', r, Post.grow gr h⟩
  | ex c ws S1 => exact h
  | stuck => exact h

/-! ### names, constants -/
def mVar (i : Nat) : M W := fun _ env S => match env[i]? with
  | some (some w) => .ok w.weak S
  | _ => .stuck
/-- with all that is known of it -/
def mVarK (i : Nat) : M W := fun _ env S => match env[i]? with
  | some (some w) => .ok w S
  | _ => .stuck
def mCon (d : PyData) : M W := fun _ _ S => .ok (.dat d) S
section
variable {X : Cx} {g : Gx} {B : WX}
theorem rd_var {i : Nat} (σ : St) (H : Hp) (Q : VK) (h : rd g B (mVar i) σ H Q) : tVar i σ H Q := by
  obtain ⟨bs, ρ, F, N, env, S, s, e, p⟩ := h
  unfold mVar at p
  split at p
  · rename_i w hw
    obtain ⟨v, h1, h2⟩ := e.at_ i w hw
    exact ⟨v, h1, p ρ F H v (Grow.refl _ _) s h2.weak⟩
  · exact p.elim
theorem rd_varK {i : Nat} (σ : St) (H : Hp) (Q : VK) (h : rd g B (mVarK i) σ H Q) : tVar i σ H Q := by
  obtain ⟨bs, ρ, F, N, env, S, s, e, p⟩ := h
  unfold mVarK at p
  split at p
  · rename_i w hw
    obtain ⟨v, h1, h2⟩ := e.at_ i w hw
    exact ⟨v, h1, p ρ F H v (Grow.refl _ _) s h2⟩
  · exact p.elim
theorem re_varK {i : Nat} {x : Str} {pos : Pos} (hN : X.N[i]? = some x := by rfl) (hv : Vis X.env.scope x := by first | exact Or.inl rfl | exact Or.inr (Or.inl rfl) | exact Or.inr (Or.inr rfl)) (hd : (x == ("__debug__" : Str)) = false := by decide)
    (hcd : (x == ("__classdict__" : Str)) = false := by decide) : PE X (.Name x pos) (rd g B (mVarK i)) := (pe_var hN hv hd hcd).imp rd_varK
theorem re_var {i : Nat} {x : Str} {pos : Pos} (hN : X.N[i]? = some x := by rfl) (hv : Vis X.env.scope x := by first | exact Or.inl rfl | exact Or.inr (Or.inl rfl) | exact Or.inr (Or.inr rfl)) (hd : (x == ("__debug__" : Str)) = false := by decide)
    (hcd : (x == ("__classdict__" : Str)) = false := by decide) : PE X (.Name x pos) (rd g B (mVar i)) := (pe_var hN hv hd hcd).imp rd_var
theorem rd_con {d : PyData} {v : V} (hr : ∀ F, Rp g.K F v d) (σ : St) (H : Hp) (Q : VK) (h : rd g B (mCon d) σ H Q) : tC v σ H Q := by
  obtain ⟨bs, ρ, F, N, env, S, s, e, p⟩ := h
  exact p ρ F H v (Grow.refl _ _) s (.dat (hr F))
theorem re_int {i : Int} {j pos} : PE X (.Constant (.int i) j pos) (rd g B (mCon (.int i))) := pe_int.imp (rd_con fun _ => .int i)
theorem re_bl {b : Bool} {j pos} : PE X (.Constant (.bool b) j pos) (rd g B (mCon (.bool b))) := pe_bl.imp (rd_con fun _ => .bl b)
theorem re_non {j pos} : PE X (.Constant .none j pos) (rd g B (mCon .none)) := pe_non.imp (rd_con fun _ => .non)
theorem re_str {x : Str} {j pos} : PE X (.Constant (.str x) j pos) (rd g B (mCon (.str x))) := pe_str.imp (rd_con fun _ => .str x)
theorem re_glob {x : Str} {v : V} {u : Value} {d : PyData} {pos : Pos} (hg : Gl X x) (hm : X.mg x = some u) (r : RelV v u) (hr : ∀ F, Rp g.K F v d) (hd : (x == ("__debug__" : Str)) = false := by decide) : PE X (.Name x pos) (rd g B (mCon d)) :=
  (pe_glob hg hm r hd).imp (rd_con hr)

/-! ### operations on two values -/
abbrev Op2 := List Nat → W → W → Store → Option (W × Store)
def mBin (f : Op2) (ma mb : M W) : M W := fun bs env S => (ma bs env S).bind fun x S1 => (mb bs env S1).bind fun y S2 => match f bs x y S2 with
  | some (w, S3) => .ok w S3
  | none => .stuck
def PostV (g : Gx) (bs : List Nat) (ρ : List Addr) (F N : Hp) (Q : VK) : Option (W × Store) → Prop
  | some (w, S') => ∀ ρ' F' H' v, Grow ρ F ρ' F' → Sim g bs ρ' F' N S' H' → Is g.K ρ' F' v w → Q v H'
  | none => False
def rd2 (g : Gx) (f : Op2) : R2 := fun x y H Q => ∃ bs ρ F N S wx wy, Sim g bs ρ F N S H ∧ Is g.K ρ F x wx ∧ Is g.K ρ F y wy ∧ PostV g bs ρ F N Q (f bs wx wy S)
theorem post_op {o : Option (W × Store)} {bs : List Nat} {ρ : List Addr} {F N : Hp} {σ : St} {Q : VK} (p : Post g B (RW g) bs ρ F N σ Q (match o with
    | some (w, S3) => .ok w S3
    | none => .stuck)) : PostV g bs ρ F N Q o := by
  cases o with
  | none => exact p
  | some q => exact p
theorem rd_bin {f : Op2} {ma mb : M W} (σ : St) (H : Hp) (Q : VK) (h : rd g B (mBin f ma mb) σ H Q) : tOp (rd2 g f) (rd g B ma) (rd g B mb) σ H Q := by
  obtain ⟨bs, ρ, F, N, env, S, s, e, p⟩ := h
  refine ⟨bs, ρ, F, N, env, S, s, e, (Post.bind p).imp fun x H1 ⟨ρ1, F1, wx, S1, g1, s1, r1, p1⟩ => ?_⟩
  refine ⟨bs, ρ1, F1, N, env, S1, s1, e.mono g1, (Post.bind p1).imp fun y H2 ⟨ρ2, F2, wy, S2, g2, s2, r2, p2⟩ => ?_⟩
  exact ⟨bs, ρ2, F2, N, S2, wx, wy, s2, r1.mono g2, r2, post_op p2⟩
variable {a b c e : Expr} {ma mb mc : M W} {pos : Pos} {f f' : Op2}
theorem re_bin {op : Operator} (ho : OpR X (binaryOp op) (rd2 g f)) (ha : PE X a (rd g B ma)) (hb : PE X b (rd g B mb)) : PE X (.BinOp a op b pos) (rd g B (mBin f ma mb)) := (pe_op ho ha hb).imp rd_bin
theorem re_cmp {op : CmpOp} (ho : OpR X (compareOp op) (rd2 g f)) (ha : PE X a (rd g B ma)) (hb : PE X b (rd g B mb)) (hm : behindInMarks op b = false := by first | exact nomark _ | rfl) : PE X (.Compare a [op] [b] pos) (rd g B (mBin f ma mb)) := (pe_cmpR ho ha hb hm).imp rd_bin
/-! ### tests -/
/-- the value as a truth, when it is a bool -/
def mB (m : M W) : M Bool := fun bs env S => (m bs env S).bind fun w S1 => match w with
  | .dat (.bool b) => .ok b S1
  | _ => .stuck
theorem is_bl {K : PySem.W.Frag} {ρ : List Addr} {F : Hp} {v : V} {b : Bool} (h : Is K ρ F v (.dat (.bool b))) : v = .bl b := by
  cases h with
  | dat r => cases r; rfl
theorem is_int {K : PySem.W.Frag} {ρ : List Addr} {F : Hp} {v : V} {b : Int} (h : Is K ρ F v (.dat (.int b))) : v = .int b := by
  cases h with
  | dat r => cases r; rfl
theorem is_str {K : PySem.W.Frag} {ρ : List Addr} {F : Hp} {v : V} {b : Str} (h : Is K ρ F v (.dat (.str b))) : v = .str b := by
  cases h with
  | dat r => cases r; rfl
theorem is_non {K : PySem.W.Frag} {ρ : List Addr} {F : Hp} {v : V} (h : Is K ρ F v (.dat .none)) : v = .non := by
  cases h with
  | dat r => cases r; rfl
theorem rd_B {m : M W} {σ : St} {H : Hp} {Q : Bool → Hp → Prop} (h : rdT g B (mB m) σ H Q) : rd g B m σ H (fun x H1 => ∃ k, x = .bl k ∧ Q k H1) := by
  obtain ⟨bs, ρ, F, N, env, S, s, e, p⟩ := h
  refine ⟨bs, ρ, F, N, env, S, s, e, (Post.bind (R1 := RW g) p).imp fun x H1 ⟨ρ1, F1, wx, S1, g1, s1, r1, p1⟩ => ?_⟩
  split at p1
  · have ev := is_bl r1
    subst ev
    exact ⟨_, rfl, p1 ρ1 F1 H1 _ (Grow.refl _ _) s1 rfl⟩
  · exact p1.elim
theorem rt_cmp {op : CmpOp} (ho : OpR X (compareOp op) (rd2 g f)) (ha : PE X a (rd g B ma)) (hb : PE X b (rd g B mb)) (hm : behindInMarks op b = false := by first | exact nomark _ | rfl) : PT X (.Compare a [op] [b] pos) (rdT g B (mB (mBin f ma mb))) :=
  (pt_cmpR ho ha hb hm).imp fun σ H Q h => rd_bin σ H _ (rd_B h)
theorem rt_val (h : PE X e (rd g B ma)) (he : ∀ whole, isTrue e X.env whole = (do let v ← whole; standAt e.pos; holding [v] (truthy v)) := by intro _; rfl) : PT X e (rdT g B (mB ma)) :=
  (pt_val h he).imp fun σ H Q h => rd_B h
def mNot (m : M Bool) : M Bool := fun bs env S => (m bs env S).bind fun b S1 => .ok (!b) S1
theorem rd_not {m : M Bool} (σ : St) (H : Hp) (Q : Bool → Hp → Prop) (h : rdT g B (mNot m) σ H Q) : tNot (rdT g B m) σ H Q := by
  obtain ⟨bs, ρ, F, N, env, S, s, e, p⟩ := h
  refine ⟨bs, ρ, F, N, env, S, s, e, (Post.bind (R1 := RB) p).imp fun x H1 ⟨ρ1, F1, wx, S1, g1, s1, r1, p1⟩ => ?_⟩
  cases r1
  exact p1 ρ1 F1 H1 _ (Grow.refl _ _) s1 rfl
theorem rt_not {m : M Bool} (h : PT X a (rdT g B m)) : PT X (.UnaryOp .Not a pos) (rdT g B (mNot m)) := (pt_not h).imp rd_not
def mIf {α : Type} (t : M Bool) (m n : M α) : M α := fun bs env S => (t bs env S).bind fun b S1 => if b = true then m bs env S1 else n bs env S1
theorem rd_if {α β : Type} {R : List Addr → Hp → β → α → Prop} {t : M Bool} {m n : M α} (σ : St) (H : Hp) (Q : β → Hp → Prop) (h : rdG g B R (mIf t m n) σ H Q) :
    rdT g B t σ H fun c H1 => if c = true then rdG g B R m σ H1 Q else rdG g B R n σ H1 Q := by
  obtain ⟨bs, ρ, F, N, env, S, s, e, p⟩ := h
  refine ⟨bs, ρ, F, N, env, S, s, e, (Post.bind (R1 := RB) p).imp fun x H1 ⟨ρ1, F1, wx, S1, g1, s1, r1, p1⟩ => ?_⟩
  cases r1
  cases x with
  | true => exact ⟨bs, ρ1, F1, N, env, S1, s1, e.mono g1, p1⟩
  | false => exact ⟨bs, ρ1, F1, N, env, S1, s1, e.mono g1, p1⟩
theorem rdG_imp {α β : Type} {R : List Addr → Hp → β → α → Prop} {m : M α} {σ : St} {H : Hp} {Q Q' : β → Hp → Prop} (h : rdG g B R m σ H Q) (i : ∀ v H, Q v H → Q' v H) : rdG g B R m σ H Q' := by
  obtain ⟨bs, ρ, F, N, env, S, s, e, p⟩ := h
  exact ⟨bs, ρ, F, N, env, S, s, e, p.imp i⟩
abbrev mAnd (t u : M Bool) : M Bool := mIf t u (fun _ _ S => .ok false S)
abbrev mOr (t u : M Bool) : M Bool := mIf t (fun _ _ S => .ok true S) u
theorem rd_ok {α β : Type} {R : List Addr → Hp → β → α → Prop} {x : α} {y : β} (hr : ∀ ρ F, R ρ F y x) (σ : St) (H : Hp) (Q : β → Hp → Prop) (h : rdG g B R (fun _ _ S => .ok x S) σ H Q) : Q y H := by
  obtain ⟨bs, ρ, F, N, env, S, s, e, p⟩ := h
  exact p ρ F H y (Grow.refl _ _) s (hr ρ F)
theorem rd_and {t u : M Bool} (σ : St) (H : Hp) (Q : Bool → Hp → Prop) (h : rdT g B (mAnd t u) σ H Q) : tAnd (rdT g B t) (rdT g B u) σ H Q :=
  rdG_imp (rd_if σ H Q h) fun c H1 q => by
    cases c with
    | true => exact q
    | false => exact rd_ok (R := RB) (y := false) (fun _ _ => rfl) σ H1 Q q
theorem rd_or {t u : M Bool} (σ : St) (H : Hp) (Q : Bool → Hp → Prop) (h : rdT g B (mOr t u) σ H Q) : tOr (rdT g B t) (rdT g B u) σ H Q :=
  rdG_imp (rd_if σ H Q h) fun c H1 q => by
    cases c with
    | true => exact rd_ok (R := RB) (y := true) (fun _ _ => rfl) σ H1 Q q
    | false => exact q
theorem rw_and1 {m : M Bool} (h : PT X a (rdT g B m)) : PW X (.BoolOp .And [a] pos) (rdT g B m) := pw_and1 h
theorem rw_or1 {m : M Bool} (h : PT X a (rdT g B m)) : PW X (.BoolOp .Or [a] pos) (rdT g B m) := pw_or1 h
theorem rw_and {m n : M Bool} {rest : List Expr} (h : PT X a (rdT g B m)) (k : PW X (.BoolOp .And (b :: rest) pos) (rdT g B n)) : PW X (.BoolOp .And (a :: b :: rest) pos) (rdT g B (mAnd m n)) := (pw_and h k).imp rd_and
theorem rw_or {m n : M Bool} {rest : List Expr} (h : PT X a (rdT g B m)) (k : PW X (.BoolOp .Or (b :: rest) pos) (rdT g B n)) : PW X (.BoolOp .Or (a :: b :: rest) pos) (rdT g B (mOr m n)) := (pw_or h k).imp rd_or
theorem re_ife {m : M Bool} (ht : PT X c (rdT g B m)) (ha : PE X a (rd g B ma)) (hb : PE X b (rd g B mb)) : PE X (.IfExp c a b pos) (rd g B (mIf m ma mb)) := (pe_ifExp ht ha hb).imp fun σ H Q h => rd_if σ H Q h
end
end Rf

namespace Rf
open PySem L2

/-! ### new lists: frozen, or a cell -/
def newL (k : Bool) (ws : List W) (S : Store) : W × Store := if k then (.loc S.length, S ++ [.lst ws]) else (mkLst ws, S)
section
variable {g : Gx} {bs : List Nat} {ρ : List Addr} {F N H : Hp} {S : Store}
theorem new_ok {k : Bool} {p : Addr} {vs : List V} {ws : List W} {Q : VK} (s : Sim g bs ρ F N S H) (hp : H p = none) (r : IsAll g.K ρ F vs ws)
    (h : ∀ ρ' F' H' v, Grow ρ F ρ' F' → Sim g bs ρ' F' N (newL k ws S).2 H' → Is g.K ρ' F' v (newL k ws S).1 → Q v H') : Q (.ref p) (upd H p (.lst vs)) := by
  cases k with
  | true =>
    obtain ⟨s', gr⟩ := s.newCell (c := .lst ws) (o := .lst vs) hp ⟨vs, upd_same, r.mono ⟨⟨[p], rfl⟩, Same.refl F⟩⟩
    refine h _ _ _ _ gr s' (.loc ?_)
    show (ρ ++ [p])[S.length]? = some p
    rw [← s.len]; simp
  | false =>
    obtain ⟨s', gr⟩ := s.frozen (o := .lst vs) hp
    exact h _ _ _ _ gr s' (is_mkLst upd_same (r.mono gr))
theorem newT_ok {p : Addr} {vs : List V} {ws : List W} {Q : VK} (s : Sim g bs ρ F N S H) (hp : H p = none) (r : IsAll g.K ρ F vs ws)
    (h : ∀ ρ' F' H' v, Grow ρ F ρ' F' → Sim g bs ρ' F' N S H' → Is g.K ρ' F' v (mkTup ws) → Q v H') : Q (.ref p) (upd H p (.tup vs)) := by
  obtain ⟨s', gr⟩ := s.frozen (o := .tup vs) hp
  exact h _ _ _ _ gr s' (is_mkTup upd_same (r.mono gr))
end

/-! ### arguments, tuples, lists -/
def mNil : M (List W) := fun _ _ S => .ok [] S
def mCons (m : M W) (ms : M (List W)) : M (List W) := fun bs env S => (m bs env S).bind fun w S1 => (ms bs env S1).bind fun ws S2 => .ok (w :: ws) S2
def mTup (ms : M (List W)) : M W := fun bs env S => (ms bs env S).bind fun ws S1 => if ws.length ≤ 100000 then .ok (mkTup ws) S1 else .stuck
def mLst (k : Bool) (ms : M (List W)) : M W := fun bs env S => (ms bs env S).bind fun ws S1 => if ws.length ≤ 100000 then .ok (newL k ws S1).1 (newL k ws S1).2 else .stuck
theorem line5 {n : Nat} (h : n ≤ 100000) : n ≤ sizeLine := Nat.le_trans h (by decide)
section
variable {X : Cx} {g : Gx} {B : WX} {a b c e : Expr} {es : List Expr} {ma mb mc : M W} {ms : M (List W)} {pos : Pos} {f f' : Op2}
theorem ra_nil : PA X [] (rdA g B mNil) := pa_nil.imp fun σ H Q ⟨bs, ρ, F, N, env, S, s, e, p⟩ => p ρ F H [] (Grow.refl _ _) s .nil
theorem ra_cons (ha : PE X e (rd g B ma)) (hr : PA X es (rdA g B ms)) (hs : starEach (e :: es) X.env = (false, eval e X.env) :: starEach es X.env := by rfl) : PA X (e :: es) (rdA g B (mCons ma ms)) :=
  (pa_cons ha hr hs).imp fun σ H Q ⟨bs, ρ, F, N, env, S, s, e, p⟩ => by
    refine ⟨bs, ρ, F, N, env, S, s, e, (Post.bind p).imp fun x H1 ⟨ρ1, F1, wx, S1, g1, s1, r1, p1⟩ => ?_⟩
    refine ⟨bs, ρ1, F1, N, env, S1, s1, e.mono g1, (Post.bind p1).imp fun y H2 ⟨ρ2, F2, wy, S2, g2, s2, r2, p2⟩ => ?_⟩
    exact p2 ρ2 F2 H2 _ (Grow.refl _ _) s2 (.cons (r1.mono g2) r2)
theorem re_tup {x1} (h : PA X es (rdA g B ms)) : PE X (.Tuple es x1 pos) (rd g B (mTup ms)) := (pe_tup h).imp fun σ H Q ⟨bs, ρ, F, N, env, S, s, e, p⟩ => by
  refine ⟨bs, ρ, F, N, env, S, s, e, (Post.bind p).imp fun x H1 ⟨ρ1, F1, wx, S1, g1, s1, r1, p1⟩ => ?_⟩
  split at p1
  · rename_i hl
    refine ⟨line5 (by rw [r1.len]; exact hl), fun q hq => newT_ok s1 hq r1 p1⟩
  · exact p1.elim
theorem re_lst {k : Bool} (h : PA X es (rdA g B ms)) : PE X (.List es pos) (rd g B (mLst k ms)) := (pe_lst h).imp fun σ H Q ⟨bs, ρ, F, N, env, S, s, e, p⟩ => by
  refine ⟨bs, ρ, F, N, env, S, s, e, (Post.bind p).imp fun x H1 ⟨ρ1, F1, wx, S1, g1, s1, r1, p1⟩ => ?_⟩
  split at p1
  · rename_i hl
    refine ⟨line5 (by rw [r1.len]; exact hl), fun q hq => new_ok s1 hq r1 p1⟩
  · exact p1.elim

/-! ### views -/
/-- the items of a tuple, of a list -/
def tupOf : W → Option (List W)
  | .dat (.tuple ds) => some (ds.map .dat)
  | .tw ws => some ws
  | _ => none
def lstOf (S : Store) : W → Option (List W)
  | .dat (.list ds) => some (ds.map .dat)
  | .lw ws => some ws
  | .loc n => match S[n]? with
    | some (.lst ws) => some ws
    | _ => none
  | _ => none
def seqOf (S : Store) (w : W) : Option (List W) := match tupOf w with
  | some ws => some ws
  | none => lstOf S w
section
variable {bs : List Nat} {ρ : List Addr} {F N H : Hp} {S : Store} {v : V} {w : W} {ws : List W}
theorem Same.seqT {K : PySem.W.Frag} {a : Addr} {xs : List V} (e : Same F H) (h : SqT K F a xs) : SqT K H a xs := Same.sqT e h
theorem tup_of (r : Is g.K ρ F v w) (h : tupOf w = some ws) : ∃ a vs, v = .ref a ∧ SqT g.K F a vs ∧ IsAll g.K ρ F vs ws := by
  cases w with
  | dat d =>
    cases d <;> simp only [tupOf] at h <;> try cases h
    cases r with
    | dat r => cases r with
      | tup q r => exact ⟨_, _, rfl, SqT.of q, r.isAll⟩
  | loc n => simp [tupOf] at h
  | tw xs => cases h; cases r with
    | tw q r => exact ⟨_, _, rfl, q, r⟩
  | lw xs => simp [tupOf] at h
  | kt ds => simp [tupOf] at h
theorem lst_of (s : Sim g bs ρ F N S H) (r : Is g.K ρ F v w) (h : lstOf S w = some ws) : ∃ a vs, v = .ref a ∧ SqL g.K H a vs ∧ IsAll g.K ρ F vs ws := by
  cases w with
  | dat d =>
    cases d <;> simp only [lstOf] at h <;> try cases h
    cases r with
    | dat r => cases r with
      | lst q r => exact ⟨_, _, rfl, SqL.of (s.ex _ _ q), r.isAll⟩
  | loc n =>
    simp only [lstOf] at h
    split at h
    · rename_i xs hn
      cases h
      cases r with
      | loc hr =>
        obtain ⟨vs, e, q⟩ := s.cell n _ _ hn hr
        exact ⟨_, vs, rfl, SqL.of e, q⟩
    · cases h
  | tw xs => simp [lstOf] at h
  | lw xs => cases h; cases r with
    | lw q r => exact ⟨_, _, rfl, s.ex.seq q, r⟩
  | kt ds => simp [lstOf] at h
theorem seq_of (s : Sim g bs ρ F N S H) (r : Is g.K ρ F v w) (h : seqOf S w = some ws) : ∃ a vs, v = .ref a ∧ (SqL g.K H a vs ∨ SqT g.K H a vs) ∧ IsAll g.K ρ F vs ws := by
  unfold seqOf at h
  split at h
  · cases h; rename_i ht
    obtain ⟨a, vs, e, q, r⟩ := tup_of r ht
    exact ⟨a, vs, e, .inr (Same.sqT s.ex q), r⟩
  · obtain ⟨a, vs, e, q, r⟩ := lst_of s r h
    exact ⟨a, vs, e, .inl q, r⟩
end
theorem IsAll.get {K : PySem.W.Frag} {ρ : List Addr} {F : Hp} : ∀ {ws : List W} {vs : List V} {i : Nat} {w : W}, IsAll K ρ F vs ws → ws[i]? = some w → ∃ v, vs[i]? = some v ∧ Is K ρ F v w
  | _ :: _, _, 0, w, .cons a b, e => by simp at e; subst e; exact ⟨_, rfl, a⟩
  | _ :: _, _, i + 1, w, .cons a b, e => by simpa using IsAll.get (i := i) b (by simpa using e)
theorem IsAll.atI {K : PySem.W.Frag} {ρ : List Addr} {F : Hp} {ws : List W} {vs : List V} {i : Int} {w : W} (h : IsAll K ρ F vs ws) (e : L2.atI ws i = some w) : ∃ v, L2.atI vs i = some v ∧ Is K ρ F v w := by
  unfold L2.atI at e ⊢
  rw [h.len]
  cases hx : ixN ws.length i with
  | none => rw [hx] at e; cases e
  | some j => rw [hx] at e; exact h.get e
theorem IsAll.append {K : PySem.W.Frag} {ρ : List Addr} {F : Hp} : ∀ {ws xs : List W} {vs us : List V}, IsAll K ρ F vs ws → IsAll K ρ F us xs → IsAll K ρ F (vs ++ us) (ws ++ xs)
  | [], _, _, _, .nil, h => h
  | _ :: _, _, _, _, .cons a b, h => .cons a (IsAll.append b h)
theorem IsAll.drop {K : PySem.W.Frag} {ρ : List Addr} {F : Hp} : ∀ {ws : List W} {vs : List V} (n : Nat), IsAll K ρ F vs ws → IsAll K ρ F (vs.drop n) (ws.drop n)
  | _, _, 0, h => h
  | [], _, n + 1, .nil => .nil
  | _ :: _, _, n + 1, .cons a b => IsAll.drop n b
theorem IsAll.take {K : PySem.W.Frag} {ρ : List Addr} {F : Hp} : ∀ {ws : List W} {vs : List V} (n : Nat), IsAll K ρ F vs ws → IsAll K ρ F (vs.take n) (ws.take n)
  | _, _, 0, h => .nil
  | [], _, n + 1, .nil => .nil
  | _ :: _, _, n + 1, .cons a b => .cons a (IsAll.take n b)
theorem IsAll.set {K : PySem.W.Frag} {ρ : List Addr} {F : Hp} {v : V} {w : W} (r : Is K ρ F v w) : ∀ {ws : List W} {vs : List V} (n : Nat), IsAll K ρ F vs ws → IsAll K ρ F (vs.set n v) (ws.set n w)
  | [], _, n, .nil => .nil
  | _ :: _, _, 0, .cons a b => .cons r b
  | _ :: _, _, n + 1, .cons a b => .cons a (IsAll.set r n b)
theorem IsAll.rev {K : PySem.W.Frag} {ρ : List Addr} {F : Hp} : ∀ {ws : List W} {vs : List V}, IsAll K ρ F vs ws → IsAll K ρ F vs.reverse ws.reverse
  | [], _, .nil => .nil
  | _ :: _, _, .cons a b => by rw [List.reverse_cons, List.reverse_cons]; exact IsAll.append (IsAll.rev b) (.cons a .nil)
/-- a pure operation -/
def pure2 (f : Store → W → W → Option W) : Op2 := fun _ x y S => (f S x y).map (·, S)
theorem postv_pure {o : Option W} {S : Store} {bs : List Nat} {ρ : List Addr} {F N : Hp} {Q : VK} {w : W} (p : PostV g bs ρ F N Q (o.map (·, S))) (h : o = some w) {H : Hp} {v : V} (s : Sim g bs ρ F N S H) (r : Is g.K ρ F v w) : Q v H := by
  subst h
  exact p ρ F H v (Grow.refl _ _) s r

/-! ### arithmetic -/
/-- a list that may be added to another one -/
def lstM (S : Store) : W → Option (List W)
  | .dat (.list ds) => some (ds.map .dat)
  | .loc n => match S[n]? with
    | some (.lst ws) => some ws
    | _ => none
  | _ => none
theorem lstM_of {bs : List Nat} {ρ : List Addr} {F N H : Hp} {S : Store} {v : V} {w : W} {ws : List W} (s : Sim g bs ρ F N S H) (r : Is g.K ρ F v w) (h : lstM S w = some ws) : ∃ a vs, v = .ref a ∧ H a = some (.lst vs) ∧ IsAll g.K ρ F vs ws := by
  cases w with
  | dat d =>
    cases d <;> simp only [lstM] at h <;> try cases h
    cases r with
    | dat r => cases r with
      | lst q r => exact ⟨_, _, rfl, s.ex _ _ q, r.isAll⟩
  | loc n =>
    simp only [lstM] at h
    split at h
    · rename_i xs hn
      cases h
      cases r with
      | loc hr =>
        obtain ⟨vs, e, q⟩ := s.cell n _ _ hn hr
        exact ⟨_, vs, rfl, e, q⟩
    · cases h
  | tw xs => simp [lstM] at h
  | lw xs => simp [lstM] at h
  | kt ds => simp [lstM] at h
def addF (k : Bool) : Op2 := fun _ x y S => match x, y with
  | .dat (.int i), .dat (.int j) => some (.int (i + j), S)
  | .dat (.str i), .dat (.str j) => if i.length + j.length ≤ 100000 then some (.str (i ++ j), S) else none
  | .dat (.tuple a), .dat (.tuple b) => if a.length + b.length ≤ 100000 then some (.dat (.tuple (a ++ b)), S) else none
  | x, y => match tupOf x, tupOf y with
    | some xs, some ys => if xs.length + ys.length ≤ 100000 then some (if xs.isEmpty then y else if ys.isEmpty then x else mkTup (xs ++ ys), S) else none
    | _, _ => match lstM S x, lstM S y with
      | some xs, some ys => if xs.length + ys.length ≤ 100000 then some (newL k (xs ++ ys) S) else none
      | _, _ => none
theorem ro_add (hK : g.K = X.K) {k : Bool} : OpR X (binaryOp .Add) (rd2 g (addF k)) := by
  intro pins s σ H x y v u Q I rx ry ⟨bs, ρ, F, N, S, wx, wy, s1, r1, r2, p⟩
  unfold addF at p
  split at p
  · rw [is_int r1] at rx; rw [is_int r2] at ry
    exact op_add pins s σ H _ _ v u Q I rx ry ⟨_, _, rfl, rfl, p ρ F H _ (Grow.refl _ _) s1 (.dat (.int _))⟩
  · split at p
    · rename_i hl
      rw [is_str r1] at rx; rw [is_str r2] at ry
      exact op_add_str pins s σ H _ _ v u Q I rx ry ⟨_, _, rfl, rfl, line5 hl, p ρ F H _ (Grow.refl _ _) s1 (.dat (.str _))⟩
    · exact p.elim
  · split at p
    · rename_i a b hl
      have r1' := r1
      have r2' := r2
      cases r1 with
      | dat r1 => cases r1 with
        | tup q1 l1 => cases r2 with
          | dat r2 => cases r2 with
            | tup q2 l2 =>
              refine op_catA pins s σ H _ _ v u Q I rx ry ⟨_, _, _, _, rfl, rfl, SqT.of (s1.ex _ _ q1), SqT.of (s1.ex _ _ q2), line5 (by rw [l1.len, l2.len]; exact hl), fun e => ?_, fun _ e => ?_, fun _ _ q hq => newT_ok s1 hq (l1.isAll.append l2.isAll) (by rw [← List.map_append, mkTup_dat]; exact p)⟩
              · subst e; cases l1; exact p ρ F H _ (Grow.refl _ _) s1 r2'
              · subst e; cases l2; rw [List.append_nil] at p; exact p ρ F H _ (Grow.refl _ _) s1 r1'
    · exact p.elim
  · split at p
    · rename_i xs ys h1 h2
      split at p
      · rename_i hl
        obtain ⟨a, vs, e1, q1, l1⟩ := tup_of r1 h1
        obtain ⟨b, us, e2, q2, l2⟩ := tup_of r2 h2
        subst e1 e2
        have n1 : xs.isEmpty = vs.isEmpty := by have := l1.len; cases xs <;> cases vs <;> simp_all
        have n2 : ys.isEmpty = us.isEmpty := by have := l2.len; cases ys <;> cases us <;> simp_all
        refine op_catA pins s σ H _ _ v u Q I rx ry ⟨a, b, vs, us, rfl, rfl, ?_, ?_, line5 (by rw [l1.len, l2.len]; exact hl), fun e => ?_, fun n e => ?_, fun n n' q hq => newT_ok s1 hq (l1.append l2) ?_⟩
        · rw [← hK]; exact Same.sqT s1.ex q1
        · rw [← hK]; exact Same.sqT s1.ex q2
        · subst e; rw [n1] at p; exact p ρ F H _ (Grow.refl _ _) s1 r2
        · subst e; rw [n1, n2] at p
          have z : vs.isEmpty = false := by cases vs <;> simp_all
          rw [z] at p; exact p ρ F H _ (Grow.refl _ _) s1 r1
        · rw [n1, n2] at p
          have z : vs.isEmpty = false := by cases vs <;> simp_all
          have z' : us.isEmpty = false := by cases us <;> simp_all
          rw [z, z'] at p; exact p
      · exact p.elim
    · split at p
      · rename_i xs ys h1 h2
        split at p
        · rename_i hl
          obtain ⟨a, vs, e1, q1, l1⟩ := lstM_of s1 r1 h1
          obtain ⟨b, us, e2, q2, l2⟩ := lstM_of s1 r2 h2
          subst e1 e2
          exact op_cat pins s σ H _ _ v u Q I rx ry ⟨a, b, vs, us, rfl, rfl, q1, q2, line5 (by rw [l1.len, l2.len]; exact hl), fun q hq => new_ok s1 hq (l1.append l2) p⟩
        · exact p.elim
      · exact p.elim
def intF (f : Int → Int → Option Int) : Op2 := fun _ x y S => match x, y with
  | .dat (.int i), .dat (.int j) => (f i j).map fun z => (.int z, S)
  | _, _ => none
theorem ro_int {op : Operator} {f : Int → Int → Option Int} {C : Int → Int → Prop} {h : Int → Int → Int} (ho : OpR X (binaryOp op) (rI C fun i j => .int (h i j))) (hf : ∀ i j z, f i j = some z → C i j ∧ z = h i j) : OpR X (binaryOp op) (rd2 g (intF f)) := by
  intro pins s σ H x y v u Q I rx ry ⟨bs, ρ, F, N, S, wx, wy, s1, r1, r2, p⟩
  unfold intF at p
  split at p
  · rename_i i j
    rw [is_int r1] at rx; rw [is_int r2] at ry
    cases hz : f i j with
    | none => rw [hz] at p; exact p.elim
    | some z =>
      rw [hz] at p
      obtain ⟨c, e⟩ := hf i j z hz
      subst e
      exact ho pins s σ H _ _ v u Q I rx ry ⟨_, _, rfl, rfl, c, p ρ F H _ (Grow.refl _ _) s1 (.dat (.int _))⟩
  · exact p.elim
def subF : Op2 := intF fun i j => some (i - j)
def modF : Op2 := intF fun i j => if 0 < j then some (i % j) else none
def fdivF : Op2 := intF fun i j => if 0 < j ∧ j.natAbs.log2 < 9000 then some (i / j) else none
def powF : Op2 := intF fun i j => if 0 ≤ j ∧ (i.natAbs.log2 + 1) * j.toNat ≤ 100000000 then some (i ^ j.toNat) else none
theorem ro_sub : OpR X (binaryOp .Sub) (rd2 g subF) := ro_int (C := fun _ _ => True) (h := fun i j => i - j) (fun pins s σ H x y v u Q I rx ry ⟨i, j, e1, e2, _, q⟩ => op_sub pins s σ H x y v u Q I rx ry ⟨i, j, e1, e2, q⟩) fun i j z e => ⟨trivial, by cases e; rfl⟩
theorem ro_mod : OpR X (binaryOp .Mod) (rd2 g modF) := ro_int (C := fun _ j => 0 < j) (h := fun i j => i % j) op_mod fun i j z e => by
  split at e
  · rename_i h; cases e; exact ⟨h, rfl⟩
  · cases e
theorem ro_fdiv : OpR X (binaryOp .FloorDiv) (rd2 g fdivF) := ro_int (C := CDivW) (h := fun i j => i / j) op_fdivW fun i j z e => by
  split at e
  · rename_i h; cases e; exact ⟨h, rfl⟩
  · cases e
theorem ro_pow : OpR X (binaryOp .Pow) (rd2 g powF) := ro_int (C := fun i j => 0 ≤ j ∧ (i.natAbs.log2 + 1) * j.toNat ≤ 100000000) (h := fun i j => i ^ j.toNat)
    (opI fun i j _ _ _ _ _ hc q => PyProof.Rows.pow_int hc.1 (by
      have b : Builtin.Int.intBits i ≤ i.natAbs.log2 + 1 := by
        unfold Builtin.Int.intBits
        split <;> omega
      have h2 := hc.2
      have h3 : Builtin.Int.intBits i * j.toNat ≤ (i.natAbs.log2 + 1) * j.toNat := Nat.mul_le_mul_right _ b
      have h4 : (Builtin.Int.intBits i : Int) * j = ((Builtin.Int.intBits i * j.toNat : Nat) : Int) := by
        rw [Int.natCast_mul, Int.toNat_of_nonneg hc.1]
      rw [h4]
      omega) q) fun i j z e => by
  split at e
  · rename_i h; cases e; exact ⟨h, rfl⟩
  · cases e
def mulOk (i j : Int) : Bool := decide (i.natAbs < 18446744073709551616) || decide (j.natAbs < 18446744073709551616) || decide (i.natAbs.log2 + j.natAbs.log2 < 900000)
def mulF (k : Bool) : Op2 := fun _ x y S => match x, y with
  | .dat (.int i), .dat (.int j) => if mulOk i j then some (.int (i * j), S) else none
  | x, .dat (.int j) => match tupOf x with
    | some xs => if xs.length ≤ 1000 ∧ 0 < xs.length ∧ 2 ≤ j ∧ j ≤ 1000 then some (mkTup (List.replicate j.toNat xs).flatten, S) else none
    | none => match lstM S x with
      | some xs => if xs.length ≤ 1000 ∧ 0 ≤ j ∧ j ≤ 1000 then some (newL k (List.replicate j.toNat xs).flatten S) else none
      | none => none
  | _, _ => none
theorem IsAll.rep {K : PySem.W.Frag} {ρ : List Addr} {F : Hp} {ws : List W} {vs : List V} (h : IsAll K ρ F vs ws) : ∀ n, IsAll K ρ F (List.replicate n vs).flatten (List.replicate n ws).flatten
  | 0 => .nil
  | n + 1 => by rw [List.replicate_succ, List.replicate_succ, List.flatten_cons, List.flatten_cons]; exact h.append (IsAll.rep h n)
theorem ro_mul (hK : g.K = X.K) {k : Bool} : OpR X (binaryOp .Mult) (rd2 g (mulF k)) := by
  intro pins s σ H x y v u Q I rx ry ⟨bs, ρ, F, N, S, wx, wy, s1, r1, r2, p⟩
  unfold mulF at p
  split at p
  · rename_i i j
    split at p
    · rename_i hm
      rw [is_int r1] at rx; rw [is_int r2] at ry
      have q : Q (.int (i * j)) H := p ρ F H _ (Grow.refl _ _) s1 (.dat (.int _))
      unfold mulOk at hm
      simp only [Bool.or_eq_true, decide_eq_true_eq] at hm
      rcases hm with (hm | hm) | hm
      · exact op_mul pins s σ H _ _ v u Q I rx ry ⟨_, _, rfl, rfl, .inl (by omega), q⟩
      · exact op_mul pins s σ H _ _ v u Q I rx ry ⟨_, _, rfl, rfl, .inr (by omega), q⟩
      · exact op_mulW pins s σ H _ _ v u Q I rx ry ⟨_, _, rfl, rfl, (by unfold CMulW; omega), q⟩
    · exact p.elim
  · rename_i j _
    rw [is_int r2] at ry
    split at p
    · rename_i xs h1
      split at p
      · rename_i hl
        obtain ⟨a, vs, e1, q1, l1⟩ := tup_of r1 h1
        subst e1
        refine op_repT pins s σ H _ _ v u Q I rx ry ⟨a, j, vs, rfl, rfl, ?_, ?_, hl.2.2.1, hl.2.2.2, (by rw [l1.len]; exact hl.1), fun q hq => newT_ok s1 hq (l1.rep _) p⟩
        · rw [← hK]; exact Same.sqT s1.ex q1
        · intro z; subst z; have := l1.len; simp at this; omega
      · exact p.elim
    · split at p
      · rename_i xs h1
        split at p
        · rename_i hl
          obtain ⟨a, vs, e1, q1, l1⟩ := lstM_of s1 r1 h1
          subst e1
          refine op_rep pins s σ H _ _ v u Q I rx ry ⟨a, j, vs, rfl, rfl, q1, by omega, by omega, ?_, fun q hq => new_ok s1 hq (l1.rep _) p⟩
          refine Nat.le_trans ?_ (show 1000 * 1000 ≤ sizeLine by decide)
          rw [l1.len]
          exact Nat.mul_le_mul hl.1 (by omega : j.toNat ≤ 1000)
        · exact p.elim
      · exact p.elim
  · exact p.elim
end
end Rf

namespace Rf
open PySem L2

/-! ### data in the heap, without dicts -/
section
variable {K : PySem.W.Frag} {F N H : Hp}
mutual
theorem Rp.dp (e : Same F H) : ∀ {d : PyData} {v : V}, d.plain = true → Rp K F v d → Dp K H v d
  | .none, _, _, h => by cases h; exact .non
  | .bool b, _, _, h => by cases h; exact .bl b
  | .int i, _, _, h => by cases h; exact .int i
  | .str x, _, _, h => by cases h; exact .str x
  | .list ds, _, p, h => by
    cases h with
    | lst s r => exact .lst (SqL.of (e _ _ s)) (RpAll.dp e (by simpa [PyData.plain] using p) r)
  | .tuple ds, _, p, h => by
    cases h with
    | tup s r => exact .tup (SqT.of (e _ _ s)) (RpAll.dp e (by simpa [PyData.plain] using p) r)
  | .dict ds, _, p, h => by simp [PyData.plain] at p
theorem RpAll.dp (e : Same F H) : ∀ {ds : List PyData} {vs : List V}, PyData.plainAll ds = true → RpAll K F vs ds → DpAll K H vs ds
  | [], _, _, h => by cases h; exact .nil
  | d :: ds, _, p, h => by
    have p' : d.plain = true ∧ PyData.plainAll ds = true := by simpa [PyData.plainAll] using p
    cases h with
    | cons a b => exact .cons (Rp.dp e p'.1 a) (RpAll.dp e p'.2 b)
end
end
mutual
/-- the data that a value tells by itself -/
def viewW : W → Option PyData
  | .dat d => some d
  | .loc _ => none
  | .tw ws => (viewAll ws).map .tuple
  | .lw ws => (viewAll ws).map .list
  | .kt _ => none
def viewAll : List W → Option (List PyData)
  | [] => some []
  | w :: ws => match viewW w, viewAll ws with
    | some d, some ds => some (d :: ds)
    | _, _ => none
end
/-- the data that a value tells now -/
def viewD (S : Store) : W → Option PyData
  | .loc n => match S[n]? with
    | some (.lst ws) => (viewAll ws).map .list
    | _ => none
  | w => viewW w
@[simp] theorem viewAll_dat (ds : List PyData) : viewAll (ds.map .dat) = some ds := by
  induction ds with
  | nil => rfl
  | cons d ds ih => simp [viewAll, viewW, ih]
section
variable {X : Cx} {g : Gx} {bs : List Nat} {ρ : List Addr} {F N H : Hp} {S : Store} {v : V} {w : W} {d : PyData}
mutual
theorem viewW_dp {K : PySem.W.Frag} (e : Same F H) : ∀ {w : W} {v : V} {d : PyData}, Is K ρ F v w → viewW w = some d → d.plain = true → Dp K H v d
  | .dat _, _, _, r, h, p => by
    cases h
    cases r with
    | dat r => exact r.dp e p
  | .loc _, _, _, _, h, _ => by simp [viewW] at h
  | .tw ws, _, _, r, h, p => by
    simp only [viewW, Option.map_eq_some_iff] at h
    obtain ⟨ds, h, rfl⟩ := h
    cases r with
    | tw q r => exact .tup (Same.sqT e q) (viewAll_dp e r h (by simpa [PyData.plain] using p))
  | .lw ws, _, _, r, h, p => by
    simp only [viewW, Option.map_eq_some_iff] at h
    obtain ⟨ds, h, rfl⟩ := h
    cases r with
    | lw q r => exact .lst (e.seq q) (viewAll_dp e r h (by simpa [PyData.plain] using p))
  | .kt _, _, _, _, h, _ => by simp [viewW] at h
theorem viewAll_dp {K : PySem.W.Frag} (e : Same F H) : ∀ {ws : List W} {vs : List V} {ds : List PyData}, IsAll K ρ F vs ws → viewAll ws = some ds → PyData.plainAll ds = true → DpAll K H vs ds
  | [], _, _, r, h, p => by cases r; simp [viewAll] at h; subst h; exact .nil
  | w :: ws, _, _, r, h, p => by
    cases r with
    | cons a b =>
      simp only [viewAll] at h
      split at h
      · rename_i d ds h1 h2
        cases h
        have p' : d.plain = true ∧ PyData.plainAll ds = true := by simpa [PyData.plainAll] using p
        exact .cons (viewW_dp e a h1 p'.1) (viewAll_dp e b h2 p'.2)
      · cases h
end
theorem view_dp (s : Sim g bs ρ F N S H) (r : Is g.K ρ F v w) (h : viewD S w = some d) (p : d.plain = true) : Dp g.K H v d := by
  cases w with
  | dat d' => exact viewW_dp s.ex r h p
  | loc n =>
    simp only [viewD] at h
    split at h
    · rename_i ws hn
      simp only [Option.map_eq_some_iff] at h
      obtain ⟨ds, h, rfl⟩ := h
      cases r with
      | loc hr =>
        obtain ⟨vs, e, q⟩ := s.cell n _ _ hn hr
        exact .lst (SqL.of e) (viewAll_dp s.ex q h (by simpa [PyData.plain] using p))
    · cases h
  | tw ws => exact viewW_dp s.ex r h p
  | lw ws => exact viewW_dp s.ex r h p
  | kt ws => exact viewW_dp s.ex r h p
def eqF (neg : Bool) : Op2 := fun _ x y S => match viewD S x, viewD S y with
  | some d, some e => if d.plain = true ∧ e.plain = true ∧ d.depth ≤ 64 then some (.bl (PyData.eqv d e != neg), S) else none
  | _, _ => none
theorem ro_eq (hK : g.K = X.K) (hu : X.A.units + 100 < cLine) : OpR X (compareOp .Eq) (rd2 g (eqF false)) := by
  intro pins s σ H x y v u Q I rx ry ⟨bs, ρ, F, N, S, wx, wy, s1, r1, r2, p⟩
  unfold eqF at p
  split at p
  · rename_i d e h1 h2
    split at p
    · rename_i hp
      have d1 := view_dp s1 r1 h1 hp.1
      have d2 := view_dp s1 r2 h2 hp.2.1
      rw [hK] at d1 d2
      obtain ⟨as, q1⟩ := Dp.reads I d x v d1 rx
      obtain ⟨bs', q2⟩ := Dp.reads I e y u d2 ry
      refine SeqAt.eq_plain q1 q2 hp.1 hp.2.1 (Nat.lt_of_le_of_lt (Nat.add_le_add_left (Nat.le_trans (Nat.min_le_left _ _) hp.2.2) _) (by omega)) ⟨.bl _, H, I, rfl, ?_⟩
      simpa using p ρ F H (.bl _) (Grow.refl _ _) s1 (.dat (.bl _))
    · exact p.elim
  · exact p.elim
theorem ro_ne (hK : g.K = X.K) (hu : X.A.units + 100 < cLine) : OpR X (compareOp .NotEq) (rd2 g (eqF true)) := by
  intro pins s σ H x y v u Q I rx ry ⟨bs, ρ, F, N, S, wx, wy, s1, r1, r2, p⟩
  unfold eqF at p
  split at p
  · rename_i d e h1 h2
    split at p
    · rename_i hp
      have d1 := view_dp s1 r1 h1 hp.1
      have d2 := view_dp s1 r2 h2 hp.2.1
      rw [hK] at d1 d2
      obtain ⟨as, q1⟩ := Dp.reads I d x v d1 rx
      obtain ⟨bs', q2⟩ := Dp.reads I e y u d2 ry
      refine SeqAt.ne_plain q1 q2 hp.1 hp.2.1 (Nat.lt_of_le_of_lt (Nat.add_le_add_left (Nat.le_trans (Nat.min_le_left _ _) hp.2.2) _) (by omega)) ⟨.bl _, H, I, rfl, ?_⟩
      simpa using p ρ F H (.bl _) (Grow.refl _ _) s1 (.dat (.bl _))
    · exact p.elim
  · exact p.elim
/-- x in a list or tuple -/
def inF (neg : Bool) : Op2 := fun _ x y S => match viewD S x, viewD S y with
  | some d, some (.list es) => if d.plain = true ∧ PyData.plainAll es = true ∧ d.depth ≤ 64 then some (.bl ((es.any fun z => PyData.eqv z d) != neg), S) else none
  | some d, some (.tuple es) => if d.plain = true ∧ PyData.plainAll es = true ∧ d.depth ≤ 64 then some (.bl ((es.any fun z => PyData.eqv z d) != neg), S) else none
  | _, _ => none
theorem unit_of {A : Around} {m n : Nat} (hu : A.units + 100 < cLine) (h : n ≤ 64) : A.units + 1 + min m n < cLine := Nat.lt_of_le_of_lt (Nat.add_le_add_left (Nat.le_trans (Nat.min_le_right _ _) h) _) (by omega)
theorem ro_in (hK : g.K = X.K) (hu : X.A.units + 100 < cLine) : OpR X (compareOp .In) (rd2 g (inF false)) := by
  intro pins s σ H x y v u Q I rx ry ⟨bs, ρ, F, N, S, wx, wy, s1, r1, r2, p⟩
  unfold inF at p
  split at p
  · rename_i d es h1 h2
    split at p
    · rename_i hp
      have d1 := view_dp s1 r1 h1 hp.1
      have d2 := view_dp s1 r2 h2 (by simpa [PyData.plain] using hp.2.1)
      rw [hK] at d1 d2
      obtain ⟨as, q1⟩ := Dp.reads I d x v d1 rx
      obtain ⟨bs', q2⟩ := Dp.reads I _ y u d2 ry
      refine SeqAt.in_list_data q2 q1 hp.2.1 hp.1 (unit_of hu hp.2.2) ⟨.bl _, H, I, rfl, ?_⟩
      simpa using p ρ F H (.bl _) (Grow.refl _ _) s1 (.dat (.bl _))
    · exact p.elim
  · rename_i d es h1 h2
    split at p
    · rename_i hp
      have d1 := view_dp s1 r1 h1 hp.1
      have d2 := view_dp s1 r2 h2 (by simpa [PyData.plain] using hp.2.1)
      rw [hK] at d1 d2
      obtain ⟨as, q1⟩ := Dp.reads I d x v d1 rx
      obtain ⟨bs', q2⟩ := Dp.reads I _ y u d2 ry
      refine SeqAt.in_tuple_data q2 q1 hp.2.1 hp.1 (unit_of hu hp.2.2) ⟨.bl _, H, I, rfl, ?_⟩
      simpa using p ρ F H (.bl _) (Grow.refl _ _) s1 (.dat (.bl _))
    · exact p.elim
  · exact p.elim
theorem ro_notIn (hK : g.K = X.K) (hu : X.A.units + 100 < cLine) : OpR X (compareOp .NotIn) (rd2 g (inF true)) := by
  intro pins s σ H x y v u Q I rx ry ⟨bs, ρ, F, N, S, wx, wy, s1, r1, r2, p⟩
  unfold inF at p
  split at p
  · rename_i d es h1 h2
    split at p
    · rename_i hp
      have d1 := view_dp s1 r1 h1 hp.1
      have d2 := view_dp s1 r2 h2 (by simpa [PyData.plain] using hp.2.1)
      rw [hK] at d1 d2
      obtain ⟨as, q1⟩ := Dp.reads I d x v d1 rx
      obtain ⟨bs', q2⟩ := Dp.reads I _ y u d2 ry
      refine SeqAt.notIn_list_data q2 q1 hp.2.1 hp.1 (unit_of hu hp.2.2) ⟨.bl _, H, I, rfl, ?_⟩
      simpa using p ρ F H (.bl _) (Grow.refl _ _) s1 (.dat (.bl _))
    · exact p.elim
  · rename_i d es h1 h2
    split at p
    · rename_i hp
      have d1 := view_dp s1 r1 h1 hp.1
      have d2 := view_dp s1 r2 h2 (by simpa [PyData.plain] using hp.2.1)
      rw [hK] at d1 d2
      obtain ⟨as, q1⟩ := Dp.reads I d x v d1 rx
      obtain ⟨bs', q2⟩ := Dp.reads I _ y u d2 ry
      refine SeqAt.notIn_tuple_data q2 q1 hp.2.1 hp.1 (unit_of hu hp.2.2) ⟨.bl _, H, I, rfl, ?_⟩
      simpa using p ρ F H (.bl _) (Grow.refl _ _) s1 (.dat (.bl _))
    · exact p.elim
  · exact p.elim
/-- is None, is not None -/
def isNF (neg : Bool) : Op2 := fun _ x y S => match y with
  | .dat .none => match x with
    | .dat .none => some (.bl (true != neg), S)
    | _ => some (.bl (false != neg), S)
  | _ => none
theorem is_notnon {K : PySem.W.Frag} (h : ∀ d, w = .dat d → d = .none → False) (r : Is K ρ F v w) : v ≠ .non := by
  intro z; subst z
  cases w with
  | dat d => cases r with
    | dat r => cases r; exact h _ rfl rfl
  | loc n => cases r
  | tw ws => cases r
  | lw ws => cases r
  | kt ws => cases r
theorem ro_isN : OpR X (compareOp .Is) (rd2 g (isNF false)) := by
  intro pins s σ H x y v u Q I rx ry ⟨bs, ρ, F, N, S, wx, wy, s1, r1, r2, p⟩
  unfold isNF at p
  split at p
  · rw [is_non r2] at ry
    split at p
    · rw [is_non r1] at rx
      exact op_isN pins s σ H _ _ v u Q I rx ry ⟨rfl, p ρ F H _ (Grow.refl _ _) s1 (.dat (.bl _))⟩
    · rename_i hx
      have hn := is_notnon (fun d e z => hx (by rw [e, z])) r1
      exact op_isN pins s σ H _ _ v u Q I rx ry ⟨rfl, by rw [decide_eq_false hn]; exact p ρ F H _ (Grow.refl _ _) s1 (.dat (.bl _))⟩
  · exact p.elim
theorem ro_notN : OpR X (compareOp .IsNot) (rd2 g (isNF true)) := by
  intro pins s σ H x y v u Q I rx ry ⟨bs, ρ, F, N, S, wx, wy, s1, r1, r2, p⟩
  unfold isNF at p
  split at p
  · rw [is_non r2] at ry
    split at p
    · rw [is_non r1] at rx
      exact op_notN pins s σ H _ _ v u Q I rx ry ⟨rfl, p ρ F H _ (Grow.refl _ _) s1 (.dat (.bl _))⟩
    · rename_i hx
      have hn := is_notnon (fun d e z => hx (by rw [e, z])) r1
      exact op_notN pins s σ H _ _ v u Q I rx ry ⟨rfl, by rw [decide_eq_false hn]; exact p ρ F H _ (Grow.refl _ _) s1 (.dat (.bl _))⟩
  · exact p.elim
end
end Rf

namespace Rf
open PySem L2 PySem.Spec PyProof.Rows

/-! ### order -/
def lexB (r : Int → Int → Bool) (z : Nat → Nat → Bool) : List Int → List Int → Bool
  | x :: xs, y :: ys => if x = y then lexB r z xs ys else r x y
  | [], ys => z 0 ys.length
  | xs, [] => z xs.length 0
theorem lexAt_shift {e r e' r' : Nat → Bool} {z : Bool} (he : ∀ i, e (i + 1) = e' i) (hr : ∀ i, r (i + 1) = r' i) : ∀ k i, Ob.lexAt e r z (i + 1) k = Ob.lexAt e' r' z i k
  | 0, _ => rfl
  | k + 1, i => by rw [Ob.lexAt_succ, Ob.lexAt_succ, he, hr, lexAt_shift he hr k (i + 1)]
theorem lexAt_lexB {r : Int → Int → Bool} {z : Nat → Nat → Bool} (hz : ∀ a b, z (a + 1) (b + 1) = z a b) : ∀ ns ms : List Int,
    Ob.lexAt (fun j => decide (ns.getD j 0 = ms.getD j 0)) (fun j => r (ns.getD j 0) (ms.getD j 0)) (z ns.length ms.length) 0 (min ns.length ms.length) = lexB r z ns ms
  | [], ys => by simp [Ob.lexAt_zero, lexB]
  | x :: xs, [] => by simp [Ob.lexAt_zero, lexB]
  | x :: xs, y :: ys => by
    have hm : min (x :: xs).length (y :: ys).length = min xs.length ys.length + 1 := by simp
    rw [hm, Ob.lexAt_succ]
    by_cases e : x = y
    · subst e
      rw [if_pos (by simp)]
      rw [lexAt_shift (e' := fun j => decide (xs.getD j 0 = ys.getD j 0)) (r' := fun j => r (xs.getD j 0) (ys.getD j 0)) (fun i => rfl) (fun i => rfl)]
      have hl : z (x :: xs).length (x :: ys).length = z xs.length ys.length := hz _ _
      rw [hl, lexAt_lexB hz xs ys]
      simp [lexB]
    · rw [if_neg (by simpa using e)]
      simp [lexB, e]
def intsD : List PyData → Option (List Int)
  | [] => some []
  | .int i :: ds => (intsD ds).map (i :: ·)
  | _ :: _ => none
theorem intsD_eq : ∀ {ds : List PyData} {ns : List Int}, intsD ds = some ns → ds = ns.map .int
  | [], _, e => by simp [intsD] at e; subst e; rfl
  | .int i :: ds, _, e => by
    simp only [intsD, Option.map_eq_some_iff] at e
    obtain ⟨ns, e, rfl⟩ := e
    rw [intsD_eq e]; rfl
  | .none :: _, _, e => by simp [intsD] at e
  | .bool _ :: _, _, e => by simp [intsD] at e
  | .str _ :: _, _, e => by simp [intsD] at e
  | .list _ :: _, _, e => by simp [intsD] at e
  | .tuple _ :: _, _, e => by simp [intsD] at e
  | .dict _ :: _, _, e => by simp [intsD] at e
@[simp] theorem intsD_map (ns : List Int) : intsD (ns.map .int) = some ns := by
  induction ns with
  | nil => rfl
  | cons n ns ih => simp [intsD, ih]
theorem rp_ints {K : PySem.W.Frag} {F : Hp} : ∀ {ns : List Int} {vs : List V}, RpAll K F vs (ns.map .int) → vs = ns.map V.int
  | [], _, h => by cases h; rfl
  | n :: ns, _, h => by
    cases h with
    | cons a b => cases a; rw [rp_ints b]; rfl
inductive Ord where
  | lt | le | gt | ge
def Ord.op : Ord → CmpOp
  | .lt => .Lt | .le => .LtE | .gt => .Gt | .ge => .GtE
def Ord.int : Ord → Int → Int → Bool
  | .lt, a, b => decide (a < b) | .le, a, b => decide (a ≤ b) | .gt, a, b => decide (b < a) | .ge, a, b => decide (b ≤ a)
def Ord.nat : Ord → Nat → Nat → Bool
  | .lt, a, b => decide (a < b) | .le, a, b => decide (a ≤ b) | .gt, a, b => decide (a > b) | .ge, a, b => decide (a ≥ b)
def Ord.str : Ord → Str → Str → Bool
  | .lt, a, b => decide (a.cps.toList < b.cps.toList) | .le, a, b => !decide (b.cps.toList < a.cps.toList) | .gt, a, b => decide (b.cps.toList < a.cps.toList) | .ge, a, b => !decide (a.cps.toList < b.cps.toList)
def ordF (o : Ord) : Op2 := fun _ x y S => match x, y with
  | .dat (.int i), .dat (.int j) => some (.bl (o.int i j), S)
  | .dat (.str i), .dat (.str j) => some (.bl (o.str i j), S)
  | .dat (.tuple a), .dat (.tuple b) => match intsD a, intsD b with
    | some ns, some ms => some (.bl (lexB o.int o.nat ns ms), S)
    | _, _ => none
  | _, _ => none
section
variable {X : Cx} {g : Gx}
theorem tup_ints {K : PySem.W.Frag} {ρ : List Addr} {F H : Hp} {v : V} {ds : List PyData} {ns : List Int} (e : Same F H) (r : Is K ρ F v (.dat (.tuple ds))) (h : intsD ds = some ns) : ∃ a, v = .ref a ∧ SqT K H a (ns.map V.int) := by
  cases r with
  | dat r => cases r with
    | tup q r =>
      rw [intsD_eq h] at r
      rw [rp_ints r] at q
      exact ⟨_, rfl, SqT.of (e _ _ q)⟩
theorem ints_at {us : List Value} {ns : List Int} (i1 : IntsAre us ns) : ∀ j (h1 : j < us.toArray.size), ∃ t, us.toArray[j] = .int (ns.getD j 0) t := fun j h1 => by
  have e1 : us.toArray.size = ns.length := by rw [List.size_toArray]; exact i1.length
  exact PyProof.Rows.IntsAre.int_at i1 _ _ (by simp at h1; simp [h1])
theorem int_bd (a b : Int) : (a == b) = decide (a = b) := by
  by_cases q : a = b
  · rw [decide_eq_true q]; exact beq_iff_eq.mpr q
  · rw [decide_eq_false q]; exact beq_eq_false_iff_ne.mpr q
theorem ro_ordT (o : Ord) (hu : X.A.units + 100 < cLine) {pins : List (Addr × Obj)} {s : Shared} {σ : L2.St} {H : Hp} {a b : Addr} {ns ms : List Int} {Q : VK} (I : Inv X pins σ H s) (ha : SqT X.K H a (ns.map V.int)) (hb : SqT X.K H b (ms.map V.int))
    (q : Q (.bl (lexB o.int o.nat ns ms)) H) : wpAny (model X.prog X.w) X.A (compareOp o.op (.ref a) (.ref b)) (EP X pins σ Q) X.xe s := by
  obtain ⟨its, r1, p1, _⟩ := I.tuple ha
  obtain ⟨its2, r2, p2, _⟩ := I.tuple hb
  have i1 : IntsAre its ns := Vals.ints r1
  have i2 : IntsAre its2 ms := Vals.ints r2
  have e1 : its.toArray.size = ns.length := by rw [List.size_toArray]; exact i1.length
  have e2 : its2.toArray.size = ms.length := by rw [List.size_toArray]; exact i2.length
  have he : ∀ j (h1 : j < its.toArray.size) (h2 : j < its2.toArray.size), SeqAt.EqAt X.A.in1 s its.toArray[j] its2.toArray[j] (decide (ns.getD j 0 = ms.getD j 0)) := fun j h1 h2 => by
    obtain ⟨t, et⟩ := ints_at i1 j h1
    obtain ⟨t', et'⟩ := ints_at i2 j h2
    rw [et, et', ← int_bd]
    exact SeqAt.EqAt.int_int _ _ _ _
  have fin : wpAny (model X.prog X.w) X.A (compareOp o.op (.ref a) (.ref b)) (EP X pins σ Q) X.xe s := by
    have q' : EP X pins σ Q (.bool (lexB o.int o.nat ns ms)) s := ⟨.bl _, H, I, rfl, q⟩
    cases o with
    | lt =>
      have R := Ob.RcOp.tuples_lt (A := X.A) (s := s) (r := fun j => decide (ns.getD j 0 < ms.getD j 0)) p1 p2 (by omega) he (fun j h1 h2 _ => by
        obtain ⟨t, et⟩ := ints_at i1 j h1
        obtain ⟨t', et'⟩ := ints_at i2 j h2
        rw [et, et']
        exact Ob.RcOp.lt_int _ _ _ _)
      rw [e1, e2] at R
      exact R X.prog X.w X.xe _ (by rw [← lexAt_lexB (fun a b => by simp [Ord.nat])] at q'; exact q')
    | le =>
      have R := Ob.RcOp.tuples_le (A := X.A) (s := s) (r := fun j => decide (ns.getD j 0 ≤ ms.getD j 0)) p1 p2 (by omega) he (fun j h1 h2 _ => by
        obtain ⟨t, et⟩ := ints_at i1 j h1
        obtain ⟨t', et'⟩ := ints_at i2 j h2
        rw [et, et']
        exact Ob.RcOp.le_int _ _ _ _)
      rw [e1, e2] at R
      exact R X.prog X.w X.xe _ (by rw [← lexAt_lexB (fun a b => by simp [Ord.nat])] at q'; exact q')
    | gt =>
      have R := Ob.RcOp.tuples_gt (A := X.A) (s := s) (r := fun j => decide (ms.getD j 0 < ns.getD j 0)) p1 p2 (by omega) he (fun j h1 h2 _ => by
        obtain ⟨t, et⟩ := ints_at i1 j h1
        obtain ⟨t', et'⟩ := ints_at i2 j h2
        rw [et, et']
        exact Ob.RcOp.gt_int _ _ _ _)
      rw [e1, e2] at R
      exact R X.prog X.w X.xe _ (by rw [← lexAt_lexB (fun a b => by simp [Ord.nat])] at q'; exact q')
    | ge =>
      have R := Ob.RcOp.tuples_ge (A := X.A) (s := s) (r := fun j => decide (ms.getD j 0 ≤ ns.getD j 0)) p1 p2 (by omega) he (fun j h1 h2 _ => by
        obtain ⟨t, et⟩ := ints_at i1 j h1
        obtain ⟨t', et'⟩ := ints_at i2 j h2
        rw [et, et']
        exact Ob.RcOp.ge_int _ _ _ _)
      rw [e1, e2] at R
      exact R X.prog X.w X.xe _ (by rw [← lexAt_lexB (fun a b => by simp [Ord.nat])] at q'; exact q')
  exact fin
theorem ro_ord (o : Ord) (hK : g.K = X.K) (hu : X.A.units + 100 < cLine) : OpR X (compareOp o.op) (rd2 g (ordF o)) := by
  intro pins s σ H x y v u Q I rx ry ⟨bs, ρ, F, N, S, wx, wy, s1, r1, r2, p⟩
  unfold ordF at p
  split at p
  · rw [is_int r1] at rx; rw [is_int r2] at ry
    have q := p ρ F H _ (Grow.refl _ _) s1 (.dat (.bl _))
    cases o
    · exact op_lt pins s σ H _ _ v u Q I rx ry ⟨_, _, rfl, rfl, q⟩
    · exact op_le pins s σ H _ _ v u Q I rx ry ⟨_, _, rfl, rfl, q⟩
    · exact op_gt pins s σ H _ _ v u Q I rx ry ⟨_, _, rfl, rfl, q⟩
    · exact op_ge pins s σ H _ _ v u Q I rx ry ⟨_, _, rfl, rfl, q⟩
  · rw [is_str r1] at rx; rw [is_str r2] at ry
    have q := p ρ F H _ (Grow.refl _ _) s1 (.dat (.bl _))
    cases o
    · exact op_lt_str pins s σ H _ _ v u Q I rx ry ⟨_, _, rfl, rfl, q⟩
    · exact op_le_str pins s σ H _ _ v u Q I rx ry ⟨_, _, rfl, rfl, q⟩
    · exact op_gt_str pins s σ H _ _ v u Q I rx ry ⟨_, _, rfl, rfl, q⟩
    · exact op_ge_str pins s σ H _ _ v u Q I rx ry ⟨_, _, rfl, rfl, q⟩
  · split at p
    · rename_i ns ms h1 h2
      obtain ⟨a, e1, q1⟩ := tup_ints s1.ex r1 h1
      obtain ⟨b, e2, q2⟩ := tup_ints s1.ex r2 h2
      subst e1 e2
      cases rx; cases ry
      rw [hK] at q1 q2
      exact ro_ordT o hu I q1 q2 (p ρ F H _ (Grow.refl _ _) s1 (.dat (.bl _)))
    · exact p.elim
  · exact p.elim

/-! ### chains -/
/-- a < b < c; the middle is asked once -/
def mChain (f f' : Op2) (ma mb mc : M W) : M W := fun bs env S => (ma bs env S).bind fun x S1 => (mb bs env S1).bind fun y S2 => match f bs x y S2 with
  | some (.dat (.bool b), S3) => if b = true then (mc bs env S3).bind fun z S4 => match f' bs y z S4 with
      | some (w, S5) => .ok w S5
      | none => .stuck
    else .ok (.bl false) S3
  | _ => .stuck
variable {B : WX} {a b c e : Expr} {ma mb mc : M W} {pos : Pos} {f f' : Op2}
theorem rd_chain (σ : L2.St) (H : Hp) (Q : VK) (h : rd g B (mChain f f' ma mb mc) σ H Q) : tChain (rd2 g f) (rd2 g f') (rd g B ma) (rd g B mb) (rd g B mc) σ H Q := by
  obtain ⟨bs, ρ, F, N, env, S, s, e, p⟩ := h
  refine ⟨bs, ρ, F, N, env, S, s, e, (Post.bind p).imp fun x H1 ⟨ρ1, F1, wx, S1, g1, s1, r1, p1⟩ => ?_⟩
  refine ⟨bs, ρ1, F1, N, env, S1, s1, e.mono g1, (Post.bind p1).imp fun y H2 ⟨ρ2, F2, wy, S2, g2, s2, r2, p2⟩ => ?_⟩
  refine ⟨bs, ρ2, F2, N, S2, wx, wy, s2, r1.mono g2, r2, ?_⟩
  split at p2
  · rename_i b S3 hf
    rw [hf]
    intro ρ3 F3 H3 v g3 s3 r3
    refine ⟨b, is_bl r3, ?_⟩
    cases b with
    | true =>
      rw [if_pos rfl] at p2 ⊢
      have p3 := Post.grow g3 p2
      refine ⟨bs, ρ3, F3, N, env, S3, s3, e.mono (g1.trans (g2.trans g3)), (Post.bind p3).imp fun z H4 ⟨ρ4, F4, wz, S4, g4, s4, r4, p4⟩ => ?_⟩
      exact ⟨bs, ρ4, F4, N, S4, wy, wz, s4, r2.mono (g3.trans g4), r4, post_op p4⟩
    | false =>
      rw [if_neg Bool.false_ne_true] at p2 ⊢
      exact p2 ρ3 F3 H3 _ g3 s3 (.dat (.bl _))
  · exact p2.elim
theorem re_chain {op op' : CmpOp} (ho : OpR X (compareOp op) (rd2 g f)) (ho' : OpR X (compareOp op') (rd2 g f')) (ha : PE X a (rd g B ma)) (hb : PE X b (rd g B mb)) (hc : PE X c (rd g B mc))
    (hm : lastMarks [op, op'] [b, c] = false := by with_unfolding_all rfl) : PE X (.Compare a [op, op'] [b, c] pos) (rd g B (mChain f f' ma mb mc)) := (pe_chain ho ho' ha hb hc hm).imp rd_chain
theorem rt_chain {op op' : CmpOp} (ho : OpR X (compareOp op) (rd2 g f)) (ho' : OpR X (compareOp op') (rd2 g f')) (ha : PE X a (rd g B ma)) (hb : PE X b (rd g B mb)) (hc : PE X c (rd g B mc))
    (hm : lastMarks [op, op'] [b, c] = false := by with_unfolding_all rfl) : PT X (.Compare a [op, op'] [b, c] pos) (rdT g B (mB (mChain f f' ma mb mc))) := (pt_chain ho ho' ha hb hc hm).imp fun σ H Q h => rd_chain σ H _ (rd_B h)

/-! ### truth -/
def truW (S : Store) : W → Option Bool
  | .dat .none => some false
  | .dat (.bool b) => some b
  | .dat (.int i) => some (i != 0)
  | .dat (.str x) => if x.length ≤ 100000 then some ((x.length : Int) != 0) else none
  | w => (seqOf S w).map fun ws => !ws.isEmpty
theorem tru_of {bs : List Nat} {ρ : List Addr} {F N H : Hp} {S : Store} {v : V} {w : W} {k : Bool} (s : Sim g bs ρ F N S H) (r : Is g.K ρ F v w) (h : truW S w = some k) : TruV g.K v H k := by
  unfold truW at h
  split at h
  · rw [is_non r]; cases h; rfl
  · rw [is_bl r]; cases h; rfl
  · rw [is_int r]; cases h; rfl
  · split at h
    · rename_i hl; rw [is_str r]; cases h; exact ⟨line5 hl, rfl⟩
    · cases h
  · simp only [Option.map_eq_some_iff] at h
    obtain ⟨ws, h, rfl⟩ := h
    obtain ⟨a, vs, e, q, l⟩ := seq_of s r h
    subst e
    have hl : (!ws.isEmpty) = !vs.isEmpty := by
      have := l.len
      cases ws <;> cases vs <;> simp_all
    rw [hl]
    rcases q with q | q
    · exact .inl ⟨vs, q, rfl⟩
    · exact .inr (.inl ⟨vs, q, rfl⟩)
def mTru (m : M W) : M Bool := fun bs env S => (m bs env S).bind fun w S1 => match truW S1 w with
  | some b => .ok b S1
  | none => .stuck
theorem rd_tru (hK : g.K = X.K) {m : M W} (σ : L2.St) (H : Hp) (Q : Bool → Hp → Prop) (h : rdT g B (mTru m) σ H Q) : rd g B m σ H (fun x H1 => ∃ k, TruV X.K x H1 k ∧ Q k H1) := by
  obtain ⟨bs, ρ, F, N, env, S, s, e, p⟩ := h
  refine ⟨bs, ρ, F, N, env, S, s, e, (Post.bind (R1 := RW g) p).imp fun x H1 ⟨ρ1, F1, wx, S1, g1, s1, r1, p1⟩ => ?_⟩
  split at p1
  · rename_i b hb
    refine ⟨b, ?_, p1 ρ1 F1 H1 _ (Grow.refl _ _) s1 rfl⟩
    rw [← hK]; exact tru_of s1 r1 hb
  · exact p1.elim
theorem rt_tru (hK : g.K = X.K) (h : PE X e (rd g B ma)) (he : ∀ whole, isTrue e X.env whole = (do let v ← whole; standAt e.pos; holding [v] (truthy v)) := by intro _; rfl) : PT X e (rdT g B (mTru ma)) :=
  (pt_truth h he).imp fun σ H Q h => rd_tru hK σ H Q h
/-- x and y, x or y, not x, as values -/
def mAndV (ma mb : M W) : M W := fun bs env S => (ma bs env S).bind fun x S1 => match truW S1 x with
  | some b => if b = true then mb bs env S1 else .ok x S1
  | none => .stuck
def mOrV (ma mb : M W) : M W := fun bs env S => (ma bs env S).bind fun x S1 => match truW S1 x with
  | some b => if b = true then .ok x S1 else mb bs env S1
  | none => .stuck
def mNotV (ma : M W) : M W := fun bs env S => (ma bs env S).bind fun x S1 => match truW S1 x with
  | some b => .ok (.bl (!b)) S1
  | none => .stuck
theorem re_and (hK : g.K = X.K) {rest : List Expr} (ha : PE X a (rd g B ma)) (hb : PE X (.BoolOp .And (b :: rest) pos) (rd g B mb)) : PE X (.BoolOp .And (a :: b :: rest) pos) (rd g B (mAndV ma mb)) := (pe_andT ha hb).imp fun σ H Q ⟨bs, ρ, F, N, env, S, s, e, p⟩ => by
  refine ⟨bs, ρ, F, N, env, S, s, e, (Post.bind (R1 := RW g) p).imp fun x H1 ⟨ρ1, F1, wx, S1, g1, s1, r1, p1⟩ => ?_⟩
  split at p1
  · rename_i b hb
    refine ⟨b, by rw [← hK]; exact tru_of s1 r1 hb, ?_⟩
    cases b with
    | true => exact ⟨bs, ρ1, F1, N, env, S1, s1, e.mono g1, p1⟩
    | false => exact p1 ρ1 F1 H1 _ (Grow.refl _ _) s1 r1
  · exact p1.elim
theorem re_or (hK : g.K = X.K) {rest : List Expr} (ha : PE X a (rd g B ma)) (hb : PE X (.BoolOp .Or (b :: rest) pos) (rd g B mb)) : PE X (.BoolOp .Or (a :: b :: rest) pos) (rd g B (mOrV ma mb)) := (pe_orT ha hb).imp fun σ H Q ⟨bs, ρ, F, N, env, S, s, e, p⟩ => by
  refine ⟨bs, ρ, F, N, env, S, s, e, (Post.bind (R1 := RW g) p).imp fun x H1 ⟨ρ1, F1, wx, S1, g1, s1, r1, p1⟩ => ?_⟩
  split at p1
  · rename_i b hb
    refine ⟨b, by rw [← hK]; exact tru_of s1 r1 hb, ?_⟩
    cases b with
    | true => exact p1 ρ1 F1 H1 _ (Grow.refl _ _) s1 r1
    | false => exact ⟨bs, ρ1, F1, N, env, S1, s1, e.mono g1, p1⟩
  · exact p1.elim
theorem re_one {op : BoolOp} (ha : PE X a (rd g B ma)) : PE X (.BoolOp op [a] pos) (rd g B ma) := pe_one ha
theorem re_not (hK : g.K = X.K) (ha : PE X a (rd g B ma)) : PE X (.UnaryOp .Not a pos) (rd g B (mNotV ma)) := (pe_notT ha).imp fun σ H Q ⟨bs, ρ, F, N, env, S, s, e, p⟩ => by
  refine ⟨bs, ρ, F, N, env, S, s, e, (Post.bind (R1 := RW g) p).imp fun x H1 ⟨ρ1, F1, wx, S1, g1, s1, r1, p1⟩ => ?_⟩
  split at p1
  · rename_i b hb
    exact ⟨b, by rw [← hK]; exact tru_of s1 r1 hb, p1 ρ1 F1 H1 _ (Grow.refl _ _) s1 (.dat (.bl _))⟩
  · exact p1.elim
def mNeg (ma : M W) : M W := fun bs env S => (ma bs env S).bind fun x S1 => match x with
  | .dat (.int i) => .ok (.int (-i)) S1
  | _ => .stuck
theorem re_neg (ha : PE X a (rd g B ma)) : PE X (.UnaryOp .USub a pos) (rd g B (mNeg ma)) := (pe_un un_neg ha).imp fun σ H Q ⟨bs, ρ, F, N, env, S, s, e, p⟩ => by
  refine ⟨bs, ρ, F, N, env, S, s, e, (Post.bind (R1 := RW g) p).imp fun x H1 ⟨ρ1, F1, wx, S1, g1, s1, r1, p1⟩ => ?_⟩
  split at p1
  · rw [is_int r1]; exact ⟨_, rfl, p1 ρ1 F1 H1 _ (Grow.refl _ _) s1 (.dat (.int _))⟩
  · exact p1.elim
end
end Rf

namespace Rf
open PySem L2

/-! ### dicts by data -/
def keyD : PyData → Option Key
  | .int i => some (.inl i)
  | .str x => some (.inr x)
  | _ => none
def keysD : List PyData → Option (List Key)
  | [] => some []
  | d :: ds => match keyD d, keysD ds with
    | some k, some ks => some (k :: ks)
    | _, _ => none
theorem keyD_eq {d : PyData} {k : Key} (h : keyD d = some k) : d = kD k := by
  cases d <;> simp [keyD] at h <;> subst h <;> rfl
@[simp] theorem keyD_kD (k : Key) : keyD (kD k) = some k := by cases k <;> rfl
theorem keysD_eq : ∀ {ds : List PyData} {ks : List Key}, keysD ds = some ks → ds = ks.map kD
  | [], _, h => by simp [keysD] at h; subst h; rfl
  | d :: ds, _, h => by
    simp only [keysD] at h
    split at h
    · rename_i k ks h1 h2
      cases h
      rw [keyD_eq h1, keysD_eq h2]; rfl
    · cases h
@[simp] theorem keysD_map (ks : List Key) : keysD (ks.map kD) = some ks := by
  induction ks with
  | nil => rfl
  | cons k ks ih => simp [keysD, ih]
theorem kD_inj : ∀ {a b : Key}, kD a = kD b → a = b
  | .inl i, .inl j, h => by injection h with h; rw [h]
  | .inr i, .inr j, h => by injection h with h; rw [h]
  | .inl i, .inr j, h => nomatch h
  | .inr i, .inl j, h => nomatch h
theorem kDs_inj : ∀ {a b : List Key}, a.map kD = b.map kD → a = b
  | [], [], _ => rfl
  | [], _ :: _, h => by simp at h
  | _ :: _, [], h => by simp at h
  | x :: xs, y :: ys, h => by
    simp only [List.map_cons, List.cons.injEq] at h
    rw [kD_inj h.1, kDs_inj h.2]
theorem rp_key {K : PySem.W.Frag} {F : Hp} {v : V} {k : Key} (h : Rp K F v (kD k)) : v = kV k := by
  cases k with
  | inl i => cases h; rfl
  | inr x => cases h; rfl
theorem rp_keys {K : PySem.W.Frag} {F : Hp} : ∀ {ks : List Key} {vs : List V}, RpAll K F vs (ks.map kD) → vs = ks.map kV
  | [], _, h => by cases h; rfl
  | k :: ks, _, h => by
    cases h with
    | cons a b => rw [rp_key a, rp_keys b]; rfl
/-- what stands at an item that equals a key -/
inductive DKey where
  | one (k : Key)
  | tup (ks : List Key)
  deriving DecidableEq
def dkey : PyData → Option DKey
  | .tuple ds => (keysD ds).map .tup
  | d => (keyD d).map .one
def DKey.d : DKey → PyData
  | .one k => kD k
  | .tup ks => .tuple (ks.map kD)
theorem dkey_eq {d : PyData} {k : DKey} (h : dkey d = some k) : d = k.d := by
  unfold dkey at h
  split at h
  · simp only [Option.map_eq_some_iff] at h
    obtain ⟨ks, h, rfl⟩ := h
    rw [keysD_eq h]; rfl
  · simp only [Option.map_eq_some_iff] at h
    obtain ⟨ks, h, rfl⟩ := h
    rw [keyD_eq h]; rfl
@[simp] theorem dkey_d (k : DKey) : dkey k.d = some k := by
  cases k with
  | one k => cases k <;> rfl
  | tup ks => simp [DKey.d, dkey]
theorem DKey.inj {a b : DKey} (h : a.d = b.d) : a = b := by
  have := dkey_d a
  rw [h, dkey_d] at this
  cases this; rfl
def lookW (ws : List (PyData × W)) (k : DKey) : Option W := (ws.find? fun p => decide (dkey p.1 = some k)).map (·.2)
def putW (ws : List (PyData × W)) (k : DKey) (w : W) : List (PyData × W) :=
  if (ws.any fun p => decide (dkey p.1 = some k)) then ws.map fun p => if dkey p.1 = some k then (p.1, w) else p else ws ++ [(k.d, w)]
def dropW (ws : List (PyData × W)) (k : DKey) : List (PyData × W) := ws.filter fun p => decide (dkey p.1 ≠ some k)
/-- all keys of one kind: 0 ints and texts, 1 tuples of these -/
def kindK (k : DKey) : Nat := match k with | .one _ => 0 | .tup _ => 1
def dicOf (S : Store) : W → Option (List (PyData × W))
  | .dat (.dict kvs) => some (kvs.map fun p => (p.1, .dat p.2))
  | .loc n => match S[n]? with
    | some (.dic ws) => some ws
    | some (.fz ws) => some ws
    | _ => none
  | _ => none
section
variable {K : PySem.W.Frag} {ρ : List Addr} {F N H : Hp}
theorem RpKV.isKV : ∀ {vs : List (PyData × V)} {ds : List (PyData × PyData)}, RpKV K F vs ds → IsKV K ρ F vs (ds.map fun p => (p.1, .dat p.2))
  | _, [], h => by cases h; exact .nil
  | _, (k, d) :: ds, h => by
    cases h with
    | cons a b => exact .cons (.dat a) (RpKV.isKV b)
theorem isKV_val {vs : List (PyData × V)} {ws : List (PyData × W)} (h : IsKV K ρ F vs ws) (k : DKey) : match lookW ws k with
    | some w => ∃ v, (vs.find? fun p => decide (dkey p.1 = some k)).map (·.2) = some v ∧ Is K ρ F v w
    | none => (vs.find? fun p => decide (dkey p.1 = some k)).map (·.2) = none := by
  induction h with
  | nil => rfl
  | @cons k' v vs w ws a b ih =>
    unfold lookW at ih ⊢
    rw [List.find?_cons, List.find?_cons]
    by_cases e : dkey k' = some k
    · simp only [decide_eq_true e]; exact ⟨v, rfl, a⟩
    · simp only [decide_eq_false e]; exact ih
theorem valK_eq (kvs : List (Key × V)) (k : Key) : ((kvs.map fun p => (kD p.1, p.2)).find? fun p => decide (dkey p.1 = some (.one k))).map (·.2) = valV kvs k := by
  unfold valV
  induction kvs with
  | nil => rfl
  | cons p kvs ih =>
    rw [List.map_cons, List.find?_cons, List.find?_cons]
    have e : decide (dkey (kD p.1) = some (.one k)) = decide (p.1 = k) := by
      have z : dkey (kD p.1) = some (.one p.1) := dkey_d (.one p.1)
      rw [z]; simp
    simp only [e]
    by_cases q : p.1 = k
    · simp [q]
    · simp [q]; simpa using ih
theorem valT_eq (kvs : List (List Key × V)) (k : List Key) : ((kvs.map fun p => (PyData.tuple (p.1.map kD), p.2)).find? fun p => decide (dkey p.1 = some (.tup k))).map (·.2) = valV kvs k := by
  unfold valV
  induction kvs with
  | nil => rfl
  | cons p kvs ih =>
    rw [List.map_cons, List.find?_cons, List.find?_cons]
    have e : decide (dkey (.tuple (p.1.map kD)) = some (.tup k)) = decide (p.1 = k) := by
      have z : dkey (.tuple (p.1.map kD)) = some (.tup p.1) := dkey_d (.tup p.1)
      rw [z]; simp
    simp only [e]
    by_cases q : p.1 = k
    · simp [q]
    · simp [q]; simpa using ih
end
/-- the dict in the heap, of one kind -/
inductive DicH (H : Hp) (a : Addr) : Nat → List (PyData × V) → Prop
  | k {kvs : List (Key × V)} : Rd H a (.dK kvs) → DicH H a 0 (kvs.map fun p => (kD p.1, p.2))
  | t {kvs : List (List Key × V)} : Rd H a (.dT kvs) → DicH H a 1 (kvs.map fun p => (.tuple (p.1.map kD), p.2))
section
variable {X : Cx} {g : Gx} {bs : List Nat} {ρ : List Addr} {F N H : Hp} {S : Store} {v : V} {w : W}
theorem dic_of {ws : List (PyData × W)} (s : Sim g bs ρ F N S H) (r : Is g.K ρ F v w) (h : dicOf S w = some ws) : ∃ a n vs, v = .ref a ∧ DicH H a n vs ∧ IsKV g.K ρ F vs ws := by
  cases w with
  | dat d =>
    cases d <;> simp only [dicOf] at h <;> try cases h
    cases r with
    | dat r => cases r with
      | dicK e q => exact ⟨_, _, _, rfl, .k (.inr ⟨_, s.ex _ _ e⟩), q.isKV⟩
      | dicT e q => exact ⟨_, _, _, rfl, .t (.inr ⟨_, s.ex _ _ e⟩), q.isKV⟩
  | loc n =>
    simp only [dicOf] at h
    split at h
    · rename_i xs hn
      cases h
      cases r with
      | loc hr =>
        rcases s.cell n _ _ hn hr with ⟨kvs, e, q⟩ | ⟨kvs, e, q⟩
        · exact ⟨_, _, _, rfl, .k (.inl e), q⟩
        · exact ⟨_, _, _, rfl, .t (.inl e), q⟩
    · rename_i xs hn
      cases h
      cases r with
      | loc hr =>
        rcases s.cell n _ _ hn hr with ⟨o, kvs, e, _, q⟩ | ⟨o, kvs, e, _, q⟩
        · exact ⟨_, _, _, rfl, .k (.inr ⟨_, e⟩), q⟩
        · exact ⟨_, _, _, rfl, .t (.inr ⟨_, e⟩), q⟩
    · cases h
  | tw xs => simp [dicOf] at h
  | lw xs => simp [dicOf] at h
  | kt xs => simp [dicOf] at h
/-- an empty dict may be of either kind -/
theorem inv_kind {pins : List (Addr × Obj)} {σ : L2.St} {s : Shared} {a : Addr} (I : Inv X pins σ H s) (h : H a = some (.dK [])) : Inv X pins σ (upd H a (.dT [])) s := by
  obtain ⟨z, hd, vs, rel, o, es, ep, h1, h2, h3, h4, h5, h6⟩ := dk_of I.hok h
  cases rel
  cases es with
  | mk l =>
    cases l with
    | nil =>
      refine I.write (h' := s.heap) (t' := s.toks) (x := a) (e := a) (by rw [h]; trivial) (.inl rfl) (fun b u _ q => q) ⟨_, h1⟩ ⟨Nat.zero_le _, hd, [], .nil, o, _, ep, h1, h2, h3, rfl, .nil⟩
    | cons x xs => cases h5
theorem inv_kind' {pins : List (Addr × Obj)} {σ : L2.St} {s : Shared} {a : Addr} (I : Inv X pins σ H s) (h : H a = some (.dT [])) : Inv X pins σ (upd H a (.dK [])) s := by
  obtain ⟨z, hd, xs, rel, o, es, ep, h1, h2, h3, h4, h5⟩ := (show ObjOk X.prog X.w H s.heap a (.dT []) from I.hok a _ h)
  cases rel
  cases es with
  | mk l =>
    cases l with
    | nil =>
      refine I.write (h' := s.heap) (t' := s.toks) (x := a) (e := a) (by rw [h]; trivial) (.inl rfl) (fun b u _ q => q) ⟨_, h1⟩ (dk_new (kvs := []) (vs := []) (Nat.zero_le _) hd .nil ⟨o, _, ep, h1, h2, h3, fun x hx => by simp at hx, ?_, .nil⟩)
      exact .nil
    | cons x xs => simp at h4
end
end Rf

namespace Rf
open PySem L2

/-! ### an item -/
def ixF : Op2 := fun _ x y S => match seqOf S x, y with
  | some ws, .dat (.int i) => (atI ws i).map (·, S)
  | some _, _ => none
  | none, y => match x, y with
    | .dat (.str z), .dat (.int i) => if z.length ≤ 100000 then (atI z.cps.toList i).map fun c => (.str ⟨#[c]⟩, S) else none
    | x, .dat d => match dicOf S x, dkey d with
      | some ws, some k => (lookW ws k).map (·, S)
      | _, _ => none
    | _, _ => none
section
variable {X : Cx} {g : Gx}
/-- the key in the heap -/
theorem key_one {K : PySem.W.Frag} {F : Hp} {v : V} {k : Key} (r : Rp K F v (DKey.one k).d) : v = kV k := rp_key r
theorem key_tup {K : PySem.W.Frag} {F H : Hp} {v : V} {ks : List Key} (e : Same F H) (r : Rp K F v (DKey.tup ks).d) : ∃ b, v = .ref b ∧ H b = some (.tup (ks.map kV)) := by
  have r' : Rp K F v (.tuple (ks.map kD)) := r
  cases r' with
  | tup q r => rw [rp_keys r] at q; exact ⟨_, rfl, e _ _ q⟩
theorem dic_get {H : Hp} {a : Addr} {n : Nat} {vs : List (PyData × V)} {K : PySem.W.Frag} {F : Hp} {v : V} {k : DKey} (d : DicH H a n vs) (e : Same F H) (r : Rp K F v k.d) (h : kindK k = n) :
    DGet H a v ((vs.find? fun p => decide (dkey p.1 = some k)).map (·.2)) := by
  cases d with
  | k hk =>
    cases k with
    | one k => rw [key_one r, valK_eq]; exact .inl ⟨_, k, hk, rfl, rfl⟩
    | tup ks => simp [kindK] at h
  | t hk =>
    cases k with
    | one k => simp [kindK] at h
    | tup ks => obtain ⟨b, rfl, hb⟩ := key_tup e r; rw [valT_eq]; exact .inr ⟨_, ks, b, hk, rfl, hb, rfl⟩
/-- a key found says the kind -/
theorem look_kind {H : Hp} {a : Addr} {n : Nat} {vs : List (PyData × V)} {k : DKey} {v : V} (d : DicH H a n vs) (h : (vs.find? fun p => decide (dkey p.1 = some k)).map (·.2) = some v) : kindK k = n := by
  obtain ⟨p, h1, _⟩ := Option.map_eq_some_iff.mp h
  have hm := List.mem_of_find?_eq_some h1
  have hp := List.find?_some h1
  simp only [decide_eq_true_eq] at hp
  cases d with
  | k hk =>
    obtain ⟨q, _, rfl⟩ := List.mem_map.mp hm
    have z : dkey (kD q.1) = some (.one q.1) := dkey_d (.one q.1)
    rw [z] at hp; cases hp; rfl
  | t hk =>
    obtain ⟨q, _, rfl⟩ := List.mem_map.mp hm
    have z : dkey (.tuple (q.1.map kD)) = some (.tup q.1) := dkey_d (.tup q.1)
    rw [z] at hp; cases hp; rfl
theorem subTail {prog : Program} {w : World} {A : Around} {E : Value → Shared → Prop} {s : Shared} {value slice : Expr} {o i : Value} {T id : String} {Q : Value → Shared → Prop} (hT : s.TypeIs o T)
    (hl : typeLookup (.type T) "__getitem__" = pure (some (.builtin id))) (h : wpAny (model prog w) A (getItem o i) Q E s) (hs : subscripted slice false o i = operate [o, i] (getItem o i)) : wpAny (model prog w) A (PyProof.Rows.subscriptTail value slice o i) Q E s := by
  unfold PyProof.Rows.subscriptTail
  refine wpAny_bind ?_
  rw [getitemInPython_of_ne hT.not_modules]; refine wpAny_bind (wpAny_specialOf hT hl ?_)
  have fin : wpAny (model prog w) A (subscripted slice false o i) (fun r t => wpAny (model prog w) A (letTemporaryGo value o r >>= fun _ => pure r) Q E t) E s := by
    rw [hs]; exact wpAny_operating (wpAny_mono h (fun r t ht => wpAny_bind (wpAny_letTemporaryGo (wpAny_pure ht))) fun _ _ x => x)
  first
    | exact wpAny_pure (wpAny_bind fin)
    | exact wpAny_bind (wpAny_pure (wpAny_bind fin))
    | exact wpAny_bind fin
theorem ix_dict (hu : X.A.units + 100 < cLine) : IxR X (fun x y H Q => ∃ a v, x = .ref a ∧ DGet H a y (some v) ∧ Q v H) := by
  intro value slice pins s σ H x y v u Q I rx ry ⟨a, w, e, d, q⟩ hs
  subst e
  cases rx
  exact subTail (dict_typeIs I d) PySem.F.slot_dict_getitem.lookup (d_getItem (by omega) I d ry fun w' s' I' r' => ⟨w, H, I', r', q⟩) hs
theorem ro_ix (hK : g.K = X.K) (hu : X.A.units + 100 < cLine) : IxR X (rd2 g ixF) := by
  intro value slice pins s σ H x y v u Q I rx ry ⟨bs, ρ, F, N, S, wx, wy, s1, r1, r2, p⟩ hs
  unfold ixF at p
  split at p
  · rename_i ws i h1
    cases hz : atI ws i with
    | none => rw [hz] at p; exact p.elim
    | some z =>
      rw [hz] at p
      obtain ⟨a, vs, e1, q1, l1⟩ := seq_of s1 r1 h1
      obtain ⟨x', hx, rx'⟩ := l1.atI hz
      subst e1
      rw [is_int r2] at ry
      have q : Q x' H := p ρ F H _ (Grow.refl _ _) s1 rx'
      rw [hK] at q1
      rcases q1 with q1 | q1
      · exact ix_list value slice pins s σ H _ _ v u Q I rx ry ⟨a, vs, i, x', rfl, rfl, q1, hx, q⟩ hs
      · exact ix_tup value slice pins s σ H _ _ v u Q I rx ry ⟨a, vs, i, x', rfl, rfl, q1, hx, q⟩ hs
  · exact p.elim
  · split at p
    · rename_i _ z i _
      split at p
      · rename_i hl
        cases hz : atI z.cps.toList i with
        | none => rw [hz] at p; exact p.elim
        | some c =>
          rw [hz] at p
          rw [is_str r1] at rx; rw [is_int r2] at ry
          exact ix_str value slice pins s σ H _ _ v u Q I rx ry ⟨z, i, c, rfl, rfl, line5 hl, hz, p ρ F H _ (Grow.refl _ _) s1 (.dat (.str _))⟩ hs
      · exact p.elim
    · rename_i d _
      split at p
      · rename_i ws k h1 h2
        cases hz : lookW ws k with
        | none => rw [hz] at p; exact p.elim
        | some z =>
          rw [hz] at p
          obtain ⟨a, n, vs, e1, dh, l1⟩ := dic_of s1 r1 h1
          subst e1
          have hv := isKV_val l1 k
          rw [hz] at hv
          obtain ⟨x', hx, rx'⟩ := hv
          have hd := dkey_eq h2
          subst hd
          cases r2 with
          | dat r2 =>
            have dg := dic_get dh s1.ex r2 (look_kind dh hx)
            rw [hx] at dg
            exact ix_dict hu value slice pins s σ H _ _ v u Q I rx ry ⟨a, x', rfl, dg, p ρ F H _ (Grow.refl _ _) s1 rx'⟩ hs
      · exact p.elim
    · exact p.elim
variable {B : WX} {a b c e : Expr} {es : List Expr} {ma mb mc : M W} {ms : M (List W)} {pos : Pos}
theorem re_ix (hK : g.K = X.K) (hu : X.A.units + 100 < cLine) (ha : PE X a (rd g B ma)) (hb : PE X b (rd g B mb)) (hs : PlainIx b := by intro _ _; rfl) : PE X (.Subscript a b pos) (rd g B (mBin ixF ma mb)) := (pe_ix (ro_ix hK hu) ha hb hs).imp rd_bin

/-! ### calls of built-ins -/
abbrev OpN := List Nat → List W → Store → Option (W × Store)
def mCB (f : OpN) (ms : M (List W)) : M W := fun bs env S => (ms bs env S).bind fun ws S1 => match f bs ws S1 with
  | some (w, S2) => .ok w S2
  | none => .stuck
def rdN (g : Gx) (f : OpN) : List V → Hp → VK → Prop := fun xs H Q => ∃ bs ρ F N S ws, Sim g bs ρ F N S H ∧ IsAll g.K ρ F xs ws ∧ PostV g bs ρ F N Q (f bs ws S)
theorem rd_CB {f : OpN} (σ : L2.St) (H : Hp) (Q : VK) (h : rd g B (mCB f ms) σ H Q) : tCB (rdN g f) (rdA g B ms) σ H Q := by
  obtain ⟨bs, ρ, F, N, env, S, s, e, p⟩ := h
  exact ⟨bs, ρ, F, N, env, S, s, e, (Post.bind p).imp fun x H1 ⟨ρ1, F1, wx, S1, g1, s1, r1, p1⟩ => ⟨bs, ρ1, F1, N, S1, wx, s1, r1, post_op p1⟩⟩
theorem re_callB {f : OpN} {x : Str} {id : String} {p : Pos} (hc : CallR X (.builtin id) (rdN g f)) (hg : Gl X x) (hm : X.mg x = none) (hv : bootBuiltins x = some (.builtin id)) (ha : PA X (e :: es) (rdA g B ms)) (hn : x ≠ "__name__" := by decide) (hdb : (x == ("__debug__" : Str)) = false := by decide)
    (he : starEach (e :: es) X.env = (false, eval e X.env) :: starEach es X.env := by rfl) (hpl : (backTo pos (starEach es X.env)).any (·.1) = false := by rfl) : PE X (.Call (.Name x p) (e :: es) [] pos) (rd g B (mCB f ms)) := (pe_callB hc hg hm hv ha hn hdb he hpl).imp rd_CB
theorem re_callTy {f : OpN} {x : Str} {T : String} {p : Pos} (hc : CallR X (.type T) (rdN g f)) (hg : Gl X x) (hm : X.mg x = none) (hv : bootBuiltins x = some (.type T)) (ha : PA X (e :: es) (rdA g B ms)) (hn : x ≠ "__name__" := by decide) (hdb : (x == ("__debug__" : Str)) = false := by decide)
    (he : starEach (e :: es) X.env = (false, eval e X.env) :: starEach es X.env := by rfl) (hpl : (backTo pos (starEach es X.env)).any (·.1) = false := by rfl) : PE X (.Call (.Name x p) (e :: es) [] pos) (rd g B (mCB f ms)) := (pe_callTy hc hg hm hv ha hn hdb he hpl).imp rd_CB
end
end Rf

namespace Rf
open PySem L2

section
variable {X : Cx} {g : Gx}
/-- a value of one argument that changes nothing -/
def un (f : Store → W → Option W) : OpN := fun _ ws S => match ws with
  | [w] => (f S w).map (·, S)
  | _ => none
theorem all_one {K : PySem.W.Frag} {ρ : List Addr} {F : Hp} {vs : List V} {w : W} (h : IsAll K ρ F vs [w]) : ∃ v, vs = [v] ∧ Is K ρ F v w := by
  cases h with
  | cons a b => cases b; exact ⟨_, rfl, a⟩
theorem all_two {K : PySem.W.Frag} {ρ : List Addr} {F : Hp} {vs : List V} {w u : W} (h : IsAll K ρ F vs [w, u]) : ∃ v x, vs = [v, x] ∧ Is K ρ F v w ∧ Is K ρ F x u := by
  cases h with
  | cons a b => cases b with
    | cons b c => cases c; exact ⟨_, _, rfl, a, b⟩
def lenW (S : Store) (w : W) : Option W := match seqOf S w with
  | some ws => some (.int ws.length)
  | none => match w with
    | .dat (.str x) => if x.length ≤ 100000 then some (.int x.length) else none
    | _ => none
theorem rc_len (hK : g.K = X.K) : CallR X (.builtin "len") (rdN g (un lenW)) := by
  intro pins s σ H xs us Q I r ⟨bs, ρ, F, N, S, ws, s1, r1, p⟩
  unfold un at p
  split at p
  · rename_i w
    obtain ⟨v, rfl, r2⟩ := all_one r1
    unfold lenW at p
    split at p
    · rename_i ws h1
      obtain ⟨a, vs, rfl, q1, l1⟩ := seq_of s1 r2 h1
      rw [hK] at q1
      exact call_len_seq pins s σ H _ us Q I r ⟨a, vs, rfl, q1, by rw [l1.len]; exact p ρ F H _ (Grow.refl _ _) s1 (.dat (.int _))⟩
    · split at p
      · skip
        split at p
        · rename_i hl
          rw [is_str r2] at r
          exact call_len_str pins s σ H _ us Q I r ⟨_, rfl, line5 hl, p ρ F H _ (Grow.refl _ _) s1 (.dat (.int _))⟩
        · exact p.elim
      · exact p.elim
  · exact p.elim
def absW (_ : Store) (w : W) : Option W := match w with
  | .dat (.int i) => some (.int (if i < 0 then -i else i))
  | _ => none
theorem rc_abs : CallR X (.builtin "abs") (rdN g (un absW)) := by
  intro pins s σ H xs us Q I r ⟨bs, ρ, F, N, S, ws, s1, r1, p⟩
  unfold un at p
  split at p
  · obtain ⟨v, rfl, r2⟩ := all_one r1
    unfold absW at p
    split at p
    · rw [is_int r2] at r
      exact call_abs pins s σ H _ us Q I r ⟨_, rfl, p ρ F H _ (Grow.refl _ _) s1 (.dat (.int _))⟩
    · exact p.elim
  · exact p.elim
def intW (_ : Store) (w : W) : Option W := match w with
  | .dat (.int i) => some (.int i)
  | .dat (.bool b) => some (.int (if b then 1 else 0))
  | _ => none
theorem rc_int : CallR X (.type "int") (rdN g (un intW)) := by
  intro pins s σ H xs us Q I r ⟨bs, ρ, F, N, S, ws, s1, r1, p⟩
  unfold un at p
  split at p
  · obtain ⟨v, rfl, r2⟩ := all_one r1
    unfold intW at p
    split at p
    · rw [is_int r2] at r
      exact call_int1 pins s σ H _ us Q I r (.inl ⟨_, rfl, p ρ F H _ (Grow.refl _ _) s1 (.dat (.int _))⟩)
    · rw [is_bl r2] at r
      exact call_int1 pins s σ H _ us Q I r (.inr ⟨_, rfl, p ρ F H _ (Grow.refl _ _) s1 (.dat (.int _))⟩)
    · exact p.elim
  · exact p.elim
def strW (_ : Store) (w : W) : Option W := match w with
  | .dat (.int i) => if i.natAbs.log2 < 1920 then some (.str (toString i)) else none
  | _ => none
theorem rc_str : CallR X (.type "str") (rdN g (un strW)) := by
  intro pins s σ H xs us Q I r ⟨bs, ρ, F, N, S, ws, s1, r1, p⟩
  unfold un at p
  split at p
  · obtain ⟨v, rfl, r2⟩ := all_one r1
    unfold strW at p
    split at p
    · split at p
      · rename_i hl
        rw [is_int r2] at r
        exact call_str_int pins s σ H _ us Q I r ⟨_, rfl, hl, p ρ F H _ (Grow.refl _ _) s1 (.dat (.str _))⟩
      · exact p.elim
    · exact p.elim
  · exact p.elim
def two (f : Int → Int → Int) : OpN := fun _ ws S => match ws with
  | [.dat (.int i), .dat (.int j)] => some (.int (f i j), S)
  | _ => none
theorem rc_two {n : String} {f : Int → Int → Int} (hc : CallR X (.builtin n) (fun xs H Q => ∃ i j, xs = [.int i, .int j] ∧ Q (.int (f i j)) H)) : CallR X (.builtin n) (rdN g (two f)) := by
  intro pins s σ H xs us Q I r ⟨bs, ρ, F, N, S, ws, s1, r1, p⟩
  unfold two at p
  split at p
  · obtain ⟨v, x, rfl, r2, r3⟩ := all_two r1
    rw [is_int r2, is_int r3] at r
    exact hc pins s σ H _ us Q I r ⟨_, _, rfl, p ρ F H _ (Grow.refl _ _) s1 (.dat (.int _))⟩
  · exact p.elim
def max2F : OpN := two fun i j => if j > i then j else i
def min2F : OpN := two fun i j => if j < i then j else i
theorem rc_max2 (hc : X.calm = true) : CallR X (.builtin "max") (rdN g max2F) := rc_two (call_max2 hc)
theorem rc_min2 (hc : X.calm = true) : CallR X (.builtin "min") (rdN g min2F) := rc_two (call_min2 hc)
/-- list(..) of a sequence -/
def listF (k : Bool) : OpN := fun _ ws S => match ws with
  | [w] => (seqOf S w).map fun xs => newL k xs S
  | _ => none
theorem rc_list (hK : g.K = X.K) {k : Bool} : CallR X (.type "list") (rdN g (listF k)) := by
  intro pins s σ H xs us Q I r ⟨bs, ρ, F, N, S, ws, s1, r1, p⟩
  unfold listF at p
  split at p
  · rename_i w
    obtain ⟨v, rfl, r2⟩ := all_one r1
    cases h1 : seqOf S w with
    | none => rw [h1] at p; exact p.elim
    | some ws =>
      rw [h1] at p
      obtain ⟨a, vs, rfl, q1, l1⟩ := seq_of s1 r2 h1
      rw [hK] at q1
      exact call_list_of pins s σ H _ us Q I r ⟨a, vs, rfl, q1, fun q hq => new_ok s1 hq l1 p⟩
  · exact p.elim
/-- tuple(..) of a list; of a tuple: itself -/
def tupleF : OpN := fun _ ws S => match ws with
  | [w] => match tupOf w with
    | some _ => some (w, S)
    | none => (lstOf S w).map fun xs => (mkTup xs, S)
  | _ => none
theorem rc_tuple (hK : g.K = X.K) : CallR X (.type "tuple") (rdN g tupleF) := by
  intro pins s σ H xs us Q I r ⟨bs, ρ, F, N, S, ws, s1, r1, p⟩
  unfold tupleF at p
  split at p
  · rename_i w
    obtain ⟨v, rfl, r2⟩ := all_one r1
    split at p
    · rename_i xs h1
      obtain ⟨a, vs, rfl, q1, l1⟩ := tup_of r2 h1
      rw [hK] at q1
      exact call_tuple_of pins s σ H _ us Q I r ⟨a, vs, rfl, .inr ⟨Same.sqT s1.ex q1, p ρ F H _ (Grow.refl _ _) s1 r2⟩⟩
    · cases h1 : lstOf S w with
      | none => rw [h1] at p; exact p.elim
      | some ws =>
        rw [h1] at p
        obtain ⟨a, vs, rfl, q1, l1⟩ := lst_of s1 r2 h1
        rw [hK] at q1
        exact call_tuple_of pins s σ H _ us Q I r ⟨a, vs, rfl, .inl ⟨q1, fun q hq => newT_ok s1 hq l1 p⟩⟩
  · exact p.elim
/-- the bools, the intsW of a list -/
def bools : List W → Option (List Bool)
  | [] => some []
  | .dat (.bool b) :: ws => (bools ws).map (b :: ·)
  | _ :: _ => none
theorem bools_is {K : PySem.W.Frag} {ρ : List Addr} {F : Hp} : ∀ {ws : List W} {vs : List V} {xs : List Bool}, IsAll K ρ F vs ws → bools ws = some xs → vs = xs.map V.bl
  | [], _, _, h, e => by cases h; simp [bools] at e; subst e; rfl
  | w :: ws, _, _, .cons a b, e => by
    unfold bools at e
    split at e
    · rename_i h; cases h
    · rename_i b' ws' h
      cases h
      simp only [Option.map_eq_some_iff] at e
      obtain ⟨xs, e, rfl⟩ := e
      rw [is_bl a, bools_is b e]; rfl
    · cases e
@[simp] theorem bools_map (xs : List Bool) : bools (xs.map W.bl) = some xs := by
  induction xs with
  | nil => rfl
  | cons x xs ih => simp only [List.map_cons, W.bl, bools, Option.map_eq_some_iff]; exact ⟨xs, ih, rfl⟩
def intsW : List W → Option (List Int)
  | [] => some []
  | .dat (.int b) :: ws => (intsW ws).map (b :: ·)
  | _ :: _ => none
theorem ints_is {K : PySem.W.Frag} {ρ : List Addr} {F : Hp} : ∀ {ws : List W} {vs : List V} {xs : List Int}, IsAll K ρ F vs ws → intsW ws = some xs → vs = xs.map V.int
  | [], _, _, h, e => by cases h; simp [intsW] at e; subst e; rfl
  | w :: ws, _, _, .cons a b, e => by
    unfold intsW at e
    split at e
    · rename_i h; cases h
    · rename_i b' ws' h
      cases h
      simp only [Option.map_eq_some_iff] at e
      obtain ⟨xs, e, rfl⟩ := e
      rw [is_int a, ints_is b e]; rfl
    · cases e
@[simp] theorem ints_map (xs : List Int) : intsW (xs.map W.int) = some xs := by
  induction xs with
  | nil => rfl
  | cons x xs ih => simp only [List.map_cons, W.int, intsW, Option.map_eq_some_iff]; exact ⟨xs, ih, rfl⟩
theorem ints_all {K : PySem.W.Frag} {ρ : List Addr} {F : Hp} : ∀ ns : List Int, IsAll K ρ F (ns.map V.int) (ns.map W.int)
  | [] => .nil
  | n :: ns => .cons (.dat (.int n)) (ints_all ns)
def allF (S : Store) (w : W) : Option W := match lstOf S w with
  | some ws => (bools ws).map fun xs => .bl (xs.all id)
  | none => none
def anyF (S : Store) (w : W) : Option W := match lstOf S w with
  | some ws => (bools ws).map fun xs => .bl (xs.any id)
  | none => none
def sumF (S : Store) (w : W) : Option W := match lstOf S w with
  | some ws => (intsW ws).map fun xs => .int xs.sum
  | none => none
theorem rc_all (hK : g.K = X.K) (hc : X.calm = true) : CallR X (.builtin "all") (rdN g (un allF)) := by
  intro pins s σ H xs us Q I r ⟨bs, ρ, F, N, S, ws, s1, r1, p⟩
  unfold un at p
  split at p
  · obtain ⟨v, rfl, r2⟩ := all_one r1
    unfold allF at p
    split at p
    · rename_i ws h1
      obtain ⟨a, vs, rfl, q1, l1⟩ := lst_of s1 r2 h1
      rw [hK] at q1
      cases h2 : bools ws with
      | none => rw [h2] at p; exact p.elim
      | some xs =>
        rw [h2] at p
        rw [bools_is l1 h2] at q1
        exact cr_all hc pins s σ H _ us Q I r ⟨a, xs, rfl, q1, p ρ F H _ (Grow.refl _ _) s1 (.dat (.bl _))⟩
    · exact p.elim
  · exact p.elim
theorem rc_any (hK : g.K = X.K) (hc : X.calm = true) : CallR X (.builtin "any") (rdN g (un anyF)) := by
  intro pins s σ H xs us Q I r ⟨bs, ρ, F, N, S, ws, s1, r1, p⟩
  unfold un at p
  split at p
  · obtain ⟨v, rfl, r2⟩ := all_one r1
    unfold anyF at p
    split at p
    · rename_i ws h1
      obtain ⟨a, vs, rfl, q1, l1⟩ := lst_of s1 r2 h1
      rw [hK] at q1
      cases h2 : bools ws with
      | none => rw [h2] at p; exact p.elim
      | some xs =>
        rw [h2] at p
        rw [bools_is l1 h2] at q1
        exact cr_any hc pins s σ H _ us Q I r ⟨a, xs, rfl, q1, p ρ F H _ (Grow.refl _ _) s1 (.dat (.bl _))⟩
    · exact p.elim
  · exact p.elim
theorem rc_sum (hK : g.K = X.K) (hc : X.calm = true) : CallR X (.builtin "sum") (rdN g (un sumF)) := by
  intro pins s σ H xs us Q I r ⟨bs, ρ, F, N, S, ws, s1, r1, p⟩
  unfold un at p
  split at p
  · obtain ⟨v, rfl, r2⟩ := all_one r1
    unfold sumF at p
    split at p
    · rename_i ws h1
      obtain ⟨a, vs, rfl, q1, l1⟩ := lst_of s1 r2 h1
      rw [hK] at q1
      cases h2 : intsW ws with
      | none => rw [h2] at p; exact p.elim
      | some xs =>
        rw [h2] at p
        rw [ints_is l1 h2] at q1
        exact cr_sum hc pins s σ H _ us Q I r ⟨a, xs, rfl, q1, p ρ F H _ (Grow.refl _ _) s1 (.dat (.int _))⟩
    · exact p.elim
  · exact p.elim
/-- isinstance(x, T), T a built-in type -/
def tyW (S : Store) : W → Option String
  | .dat .none => some "NoneType"
  | .dat (.bool _) => some "bool"
  | .dat (.int _) => some "int"
  | .dat (.str _) => some "str"
  | .dat (.list _) => some "list"
  | .dat (.tuple _) => some "tuple"
  | .dat (.dict _) => some "dict"
  | .tw _ => some "tuple"
  | .lw _ => some "list"
  | .loc n => match S[n]? with
    | some (.lst _) => some "list"
    | some (.dic _) => some "dict"
    | _ => none
  | .kt _ => none
/-- a type, also of a locked dict whose keys are tuples -/
def TyD (K : PySem.W.Frag) (H : Hp) (x : V) (t : Value) : Prop := TyX K H x t ∨ ∃ a o, ∃ kvs : List (List Key × V), x = .ref a ∧ H a = some (.frz o (.dT kvs)) ∧ t = .type "dict"
def isiD (K : PySem.W.Frag) : List V → Hp → VK → Prop := fun xs H Q => ∃ (x c : V) (t u : Value) (b : Bool), xs = [x, c] ∧ ClsV c u ∧ TyD K H x t ∧ PySem.W.kitOne K t u = some b ∧ Q (.bl b) H
theorem call_isiD : CallR X (.builtin "isinstance") (isiD X.K) := by
  intro pins s σ H xs us Q inv rel ⟨x, c, t, u, b, ex, cls, ty, kit, q⟩
  rcases ty with ty | ⟨a, o, kvs, rfl, look, rfl⟩
  · exact call_isi pins s σ H xs us Q inv rel ⟨x, c, t, u, b, ex, cls, ty, kit, q⟩
  · subst ex
    obtain ⟨w1, w2, rfl, rel1, rel2⟩ := vals2 rel
    obtain rfl := cls.eq rel2
    cases rel1
    obtain ⟨hs, get, exact_, _⟩ := inv.frzT look
    exact PySem.W.kia_one PySem.W.kitx_dict inv.kIn ⟨o, get, exact_.1⟩ kit (fun z => nomatch z) fun tk => ⟨.bl b, H, inv.tok tk, rfl, q⟩
theorem ty_of {bs : List Nat} {ρ : List Addr} {F N H : Hp} {S : Store} {v : V} {w : W} {T : String} (s : Sim g bs ρ F N S H) (r : Is g.K ρ F v w) (h : tyW S w = some T) : TyD g.K H v (.type T) := by
  unfold tyW at h
  split at h <;> try cases h
  · rw [is_non r]; exact .inl (.base .non)
  · rw [is_bl r]; exact .inl (.base (.bl _))
  · rw [is_int r]; exact .inl (.base (.int _))
  · rw [is_str r]; exact .inl (.base (.str _))
  · cases r with
    | dat r => cases r with
      | lst q _ => exact .inl (.base (.lst (s.ex _ _ q)))
  · cases r with
    | dat r => cases r with
      | tup q _ => exact .inl (.base (.tup (s.ex _ _ q)))
  · cases r with
    | dat r => cases r with
      | dicK q _ => exact .inl (.fDict (s.ex _ _ q))
      | dicT q _ => exact .inr ⟨_, _, _, rfl, s.ex _ _ q, rfl⟩
  · cases r with
    | tw q _ =>
      rcases q with (q | ⟨o, q⟩) | ⟨o, its, n, q, c, _⟩
      · exact .inl (.base (.tup (s.ex _ _ q)))
      · exact .inl (.fTuple (s.ex _ _ q))
      · exact .inl (.kTuple q c)
  · cases r with
    | lw q _ =>
      rcases q with (q | ⟨o, q⟩) | ⟨o, its, n, q, c, _⟩
      · exact .inl (.base (.lst (s.ex _ _ q)))
      · exact .inl (.base (.frz (s.ex _ _ q)))
      · exact .inl (.kList q c)
  · split at h <;> try cases h
    · rename_i hn
      cases r with
      | loc hr => obtain ⟨vs, e, q⟩ := s.cell _ _ _ hn hr; exact .inl (.base (.lst e))
    · rename_i hn
      cases r with
      | loc hr =>
        rcases s.cell _ _ _ hn hr with ⟨kvs, e, q⟩ | ⟨kvs, e, q⟩
        · exact .inl (.base (.dK e))
        · exact .inl (.base (.dT e))
def isiW (T : String) (S : Store) (w : W) : Option W := match tyW S w with
  | some t => (kitB t T).map .bl
  | none => none
def mIsi (T : String) (m : M W) : M W := fun bs env S => (m bs env S).bind fun w S1 => match isiW T S1 w with
  | some u => .ok u S1
  | none => .stuck
variable {B : WX} {a b c e : Expr} {es : List Expr} {ma mb mc : M W} {ms : M (List W)} {pos : Pos}
/-- isinstance with a name of a built-in type -/
theorem re_isi (hK : g.K = X.K) {x t : Str} {T : String} {p q : Pos} (hg : Gl X x) (hm : X.mg x = none) (hv : bootBuiltins x = some (.builtin "isinstance")) (ha : PE X a (rd g B ma)) (hg' : Gl X t) (hm' : X.mg t = none) (hv' : bootBuiltins t = some (.type T))
    (hn : x ≠ "__name__" := by decide) (hdb : (x == ("__debug__" : Str)) = false := by decide) (hn' : t ≠ "__name__" := by decide) (hdb' : (t == ("__debug__" : Str)) = false := by decide)
    (he : starEach [a, .Name t q] X.env = (false, eval a X.env) :: starEach [.Name t q] X.env := by rfl) (hpl : (backTo pos (starEach [.Name t q] X.env)).any (·.1) = false := by rfl) :
    PE X (.Call (.Name x p) [a, .Name t q] [] pos) (rd g B (mIsi T ma)) :=
  (pe_callB call_isiD hg hm hv (pa_cons ha (pa_cons (pe_bltn (v := .ty T) hg' hm' hv' rfl hn' hdb') pa_nil) he) hn hdb he hpl).imp fun σ H Q ⟨bs, ρ, F, N, env, S, s, e, p⟩ => by
    refine ⟨bs, ρ, F, N, env, S, s, e, (Post.bind p).imp fun x H1 ⟨ρ1, F1, wx, S1, g1, s1, r1, p1⟩ => ?_⟩
    show isiD X.K [x, .ty T] H1 Q
    split at p1
    · rename_i u hu
      unfold isiW at hu
      split at hu
      · rename_i t ht
        simp only [Option.map_eq_some_iff] at hu
        obtain ⟨b, hb, rfl⟩ := hu
        have ty := ty_of s1 r1 ht
        rw [hK] at ty
        exact ⟨x, .ty T, .type t, .type T, b, rfl, .ty T, ty, kit_ty hb, p1 ρ1 F1 H1 _ (Grow.refl _ _) s1 (.dat (.bl _))⟩
      · cases hu
    · exact p1.elim
end
end Rf

namespace Rf
open PySem L2

/-! ### statements -/
inductive SO where
  | nx (env : Env) (S : Store)
  | rt (w : W) (S : Store)
  | bk (env : Env) (S : Store)
  | ct (env : Env) (S : Store)
  | ex (c : Nat) (ws : List W) (env : Env) (S : Store)
  | stuck
abbrev MS := List Nat → Env → Store → SO
def Out.so {α : Type} (o : Out α) (env : Env) (f : α → Store → SO) : SO := match o with
  | .ok a S => f a S
  | .ex c ws S => .ex c ws env S
  | .stuck => .stuck
def PostS (g : Gx) (B : WX) (bs : List Nat) (ρ : List Addr) (F N : Hp) (D : Ends) : SO → Prop
  | .nx e S' => ∀ ρ' F' H' σ', Grow ρ F ρ' F' → Sim g bs ρ' F' N S' H' → EnvR g ρ' F' σ' e → D.nx σ' H'
  | .rt w S' => ∀ ρ' F' H' v, Grow ρ F ρ' F' → Sim g bs ρ' F' N S' H' → Is g.K ρ' F' v w → D.rt v H'
  | .bk e S' => ∀ ρ' F' H' σ', Grow ρ F ρ' F' → Sim g bs ρ' F' N S' H' → EnvR g ρ' F' σ' e → D.bk σ' H'
  | .ct e S' => ∀ ρ' F' H' σ', Grow ρ F ρ' F' → Sim g bs ρ' F' N S' H' → EnvR g ρ' F' σ' e → D.ct σ' H'
  | .ex c ws e S' => ∀ ρ' F' H' σ' d, Grow ρ F ρ' F' → Sim g bs ρ' F' N S' H' → EnvR g ρ' F' σ' e → ExR g c ρ' F' H' d ws → B (.ref (g.cls c)) d σ' H'
  | .stuck => False
def rdS (g : Gx) (B : WX) (m : MS) : TS := fun D σ H => ∃ bs ρ F N env S, Sim g bs ρ F N S H ∧ EnvR g ρ F σ env ∧ PostS g B bs ρ F N D (m bs env S)
section
variable {X : Cx} {g : Gx} {B : WX} {bs : List Nat} {ρ ρ1 : List Addr} {F F1 N : Hp} {D : Ends} {σ : L2.St}
theorem PostS.grow {o : SO} (gr : Grow ρ F ρ1 F1) (h : PostS g B bs ρ F N D o) : PostS g B bs ρ1 F1 N D o := by
  cases o with
  | nx e S => exact fun ρ' F' H' s' g1 => h ρ' F' H' s' (gr.trans g1)
  | rt e S => exact fun ρ' F' H' s' g1 => h ρ' F' H' s' (gr.trans g1)
  | bk e S => exact fun ρ' F' H' s' g1 => h ρ' F' H' s' (gr.trans g1)
  | ct e S => exact fun ρ' F' H' s' g1 => h ρ' F' H' s' (gr.trans g1)
  | ex c ws e S => exact fun ρ' F' H' s' d g1 => h ρ' F' H' s' d (gr.trans g1)
  | stuck => exact h
theorem PostS.out {α β : Type} {R : List Addr → Hp → β → α → Prop} {o : Out α} {env : Env} {f : α → Store → SO} (e : EnvR g ρ F σ env) (h : PostS g B bs ρ F N D (o.so env f)) :
    Post g B R bs ρ F N σ (fun v H1 => ∃ ρ' F' a S', Grow ρ F ρ' F' ∧ Sim g bs ρ' F' N S' H1 ∧ R ρ' F' v a ∧ PostS g B bs ρ' F' N D (f a S')) o := by
  cases o with
  | ok a S1 => exact fun ρ' F' H' v gr s' r => ⟨ρ', F', a, S1, gr, s', r, PostS.grow gr h⟩
  | ex c ws S1 => exact fun ρ' F' H' d gr s' r => h ρ' F' H' σ d gr s' (e.mono gr) r
  | stuck => exact h
variable {a b c e : Expr} {es : List Expr} {ma mb mc : M W} {ms : M (List W)} {pos : Pos} {st : Stmt} {rest : List Stmt}
/-- an expression alone -/
def sDrop (m : M W) : MS := fun bs env S => (m bs env S).so env fun _ S1 => .nx env S1
theorem rs_expr (h : PE X e (rd g B ma)) (hs : swapsWith e none pos.line X.env = pure false := by rfl) : PS X (.Expr e pos) (rdS g B (sDrop ma)) := (ps_expr h hs).imp fun D σ H ⟨bs, ρ, F, N, env, S, s, e, p⟩ => by
  refine ⟨bs, ρ, F, N, env, S, s, e, (PostS.out (R := RW g) e p).imp fun x H1 ⟨ρ1, F1, wx, S1, g1, s1, r1, p1⟩ => ?_⟩
  exact p1 ρ1 F1 H1 σ (Grow.refl _ _) s1 (e.mono g1)
def sRet (m : M W) : MS := fun bs env S => (m bs env S).so env fun w S1 => .rt w S1
theorem rs_ret (h : PE X e (rd g B ma)) : PS X (.Return (some e) pos) (rdS g B (sRet ma)) := (ps_ret h).imp fun D σ H ⟨bs, ρ, F, N, env, S, s, e, p⟩ => by
  refine ⟨bs, ρ, F, N, env, S, s, e, (PostS.out (R := RW g) e p).imp fun x H1 ⟨ρ1, F1, wx, S1, g1, s1, r1, p1⟩ => ?_⟩
  exact p1 ρ1 F1 H1 x (Grow.refl _ _) s1 r1
def sRetN : MS := fun _ _ S => .rt .non S
theorem rs_retN : PS X (.Return none pos) (rdS g B sRetN) := ps_retN.imp fun D σ H ⟨bs, ρ, F, N, env, S, s, e, p⟩ => p ρ F H .non (Grow.refl _ _) s (.dat .non)
def sNil : MS := fun _ env S => .nx env S
def SO.andThen (o : SO) (f : Env → Store → SO) : SO := match o with
  | .nx env S => f env S
  | o => o
def sSeq (m n : MS) : MS := fun bs env S => (m bs env S).andThen fun env1 S1 => n bs env1 S1
theorem rss_nil : PSs X [] (rdS g B sNil) := pss_nil.imp fun D σ H ⟨bs, ρ, F, N, env, S, s, e, p⟩ => p ρ F H σ (Grow.refl _ _) s e
theorem rss_cons {m n : MS} (h : PS X st (rdS g B m)) (k : PSs X rest (rdS g B n)) : PSs X (st :: rest) (rdS g B (sSeq m n)) := (pss_cons h k).imp fun D σ H ⟨bs, ρ, F, N, env, S, s, e, p⟩ => by
  refine ⟨bs, ρ, F, N, env, S, s, e, ?_⟩
  unfold sSeq at p
  cases hm : m bs env S with
  | nx e1 S1 => rw [hm] at p; exact fun ρ' F' H' σ' gr s' e' => ⟨bs, ρ', F', N, e1, S1, s', e', PostS.grow gr p⟩
  | rt w S1 => rw [hm] at p; exact p
  | bk e1 S1 => rw [hm] at p; exact p
  | ct e1 S1 => rw [hm] at p; exact p
  | ex c ws e1 S1 => rw [hm] at p; exact p
  | stuck => rw [hm] at p; exact p
theorem rss_one {m : MS} (h : PS X st (rdS g B m)) : PSs X [st] (rdS g B m) := pss_one h
def sBrk : MS := fun _ env S => .bk env S
def sCnt : MS := fun _ env S => .ct env S
theorem rs_break : PS X (.Break pos) (rdS g B sBrk) := ps_break.imp fun D σ H ⟨bs, ρ, F, N, env, S, s, e, p⟩ => p ρ F H σ (Grow.refl _ _) s e
theorem rs_continue : PS X (.Continue pos) (rdS g B sCnt) := ps_continue.imp fun D σ H ⟨bs, ρ, F, N, env, S, s, e, p⟩ => p ρ F H σ (Grow.refl _ _) s e
theorem rs_pass : PS X (.Pass pos) (rdS g B sNil) := ps_pass.imp fun D σ H ⟨bs, ρ, F, N, env, S, s, e, p⟩ => p ρ F H σ (Grow.refl _ _) s e
/-- what is never come to -/
def sNever : MS := fun _ _ _ => .stuck
theorem rs_never : PS X st (rdS g B sNever) := ps_never.imp fun D σ H ⟨bs, ρ, F, N, env, S, s, e, p⟩ => p
def sIf (t : M Bool) (m n : MS) : MS := fun bs env S => (t bs env S).so env fun b S1 => if b = true then m bs env S1 else n bs env S1
theorem rs_if {t : M Bool} {m n : MS} {p q : List Stmt} (ht : PT X c (rdT g B t)) (hm : PSs X p (rdS g B m)) (hn : PSs X q (rdS g B n)) : PS X (.If c p q pos) (rdS g B (sIf t m n)) := (ps_if ht hm hn).imp fun D σ H ⟨bs, ρ, F, N, env, S, s, e, p⟩ => by
  refine ⟨bs, ρ, F, N, env, S, s, e, (PostS.out (R := RB) e p).imp fun x H1 ⟨ρ1, F1, wx, S1, g1, s1, r1, p1⟩ => ?_⟩
  cases r1
  cases x with
  | true => exact ⟨bs, ρ1, F1, N, env, S1, s1, e.mono g1, p1⟩
  | false => exact ⟨bs, ρ1, F1, N, env, S1, s1, e.mono g1, p1⟩

/-! ### targets -/
abbrev TM := W → M Env
abbrev TMs := List W → M Env
def PostG (g : Gx) (B : WX) (bs : List Nat) (ρ : List Addr) (F N : Hp) (σ : L2.St) (Q : L2.St → Hp → Prop) : Out Env → Prop
  | .ok e S' => ∀ ρ' F' H' σ', Grow ρ F ρ' F' → Sim g bs ρ' F' N S' H' → EnvR g ρ' F' σ' e → Q σ' H'
  | .ex c ws S' => ∀ ρ' F' H' d, Grow ρ F ρ' F' → Sim g bs ρ' F' N S' H' → ExR g c ρ' F' H' d ws → B (.ref (g.cls c)) d σ H'
  | .stuck => False
theorem PostG.grow {o : Out Env} {Q : L2.St → Hp → Prop} (gr : Grow ρ F ρ1 F1) (h : PostG g B bs ρ F N σ Q o) : PostG g B bs ρ1 F1 N σ Q o := by
  cases o with
  | ok e S => exact fun ρ' F' H' s' g1 => h ρ' F' H' s' (gr.trans g1)
  | ex c ws S => exact fun ρ' F' H' d g1 => h ρ' F' H' d (gr.trans g1)
  | stuck => exact h
theorem PostG.imp {o : Out Env} {Q Q' : L2.St → Hp → Prop} (h : PostG g B bs ρ F N σ Q o) (i : ∀ σ H, Q σ H → Q' σ H) : PostG g B bs ρ F N σ Q' o := by
  cases o with
  | ok e S => exact fun ρ' F' H' s' g1 s r => i _ _ (h ρ' F' H' s' g1 s r)
  | ex c ws S => exact h
  | stuck => exact h
def rdTg (g : Gx) (B : WX) (t : TM) : TG := fun v σ H Q => ∃ bs ρ F N env S w, Sim g bs ρ F N S H ∧ EnvR g ρ F σ env ∧ Is g.K ρ F v w ∧ PostG g B bs ρ F N σ Q (t w bs env S)
def rdTgs (g : Gx) (B : WX) (t : TMs) : TGs := fun vs σ H Q => ∃ bs ρ F N env S ws, Sim g bs ρ F N S H ∧ EnvR g ρ F σ env ∧ IsAll g.K ρ F vs ws ∧ PostG g B bs ρ F N σ Q (t ws bs env S)
def tName (i : Nat) : TM := fun w _ env S => .ok (env.set i (some w)) S
theorem rg_name {i : Nat} {x : Str} (hN : X.N.Nodup) (hi : X.N[i]? = some x := by rfl) (hx : Loc X.env.scope x := by first | exact Or.inl rfl | exact Or.inr rfl) (hf : X.fn x = true ∨ X.env.scope.names.lookup x = some .local := by first | exact .inl rfl | exact .inr rfl | assumption) : PG X (.Name x pos) (rdTg g B (tName i)) :=
  (pg_name hN hi hx hf).imp fun v σ H Q ⟨bs, ρ, F, N, env, S, w, s, e, r, p⟩ => p ρ F H _ (Grow.refl _ _) s (e.set i r)
def tNil : TMs := fun ws _ env S => match ws with
  | [] => .ok env S
  | _ => .stuck
def tCons (t : TM) (u : TMs) : TMs := fun ws bs env S => match ws with
  | w :: r => (t w bs env S).bind fun env1 S1 => u r bs env1 S1
  | [] => .stuck
/-- targets that never raise -/
def Calm (t : TM) : Prop := ∀ w bs env S c ws S1, t w bs env S ≠ .ex c ws S1
theorem rgs_nil : PGs X [] (rdTgs g B tNil) := ⟨fun pins s σ H vs us Q I rv ⟨bs, ρ, F, N, env, S, ws, s1, e, r, p⟩ => by
  refine pgs_nil.run pins s σ H vs us Q I rv ?_
  cases ws with
  | nil => cases r; exact ⟨rfl, p ρ F H σ (Grow.refl _ _) s1 e⟩
  | cons w ws => exact p.elim⟩
theorem rgs_cons {t : TM} {u : TMs} (h1 : PG X e (rdTg g B t)) (h2 : PGs X es (rdTgs g B u)) (hu : ∀ ws bs env S c us S1, u ws bs env S ≠ .ex c us S1)
    (hs : (assignEach (e :: es) X.env).map (·.2) = assign e X.env :: (assignEach es X.env).map (·.2) := by rfl) : PGs X (e :: es) (rdTgs g B (tCons t u)) := ⟨fun pins s σ H vs us Q I rv ⟨bs, ρ, F, N, env, S, ws, s1, e, r, p⟩ => by
  refine (pgs_cons h1 h2 hs).run pins s σ H vs us Q I rv ?_
  cases ws with
  | nil => exact p.elim
  | cons w ws =>
    cases r with
    | @cons v vs' _ _ ra rb =>
      refine ⟨v, vs', rfl, bs, ρ, F, N, env, S, w, s1, e, ra, ?_⟩
      unfold tCons at p
      cases ht : t w bs env S with
      | ok e1 S1 =>
        simp only [ht, Out.bind_ok] at p
        intro ρ' F' H' σ' gr s' e'
        refine ⟨bs, ρ', F', N, e1, S1, ws, s', e', rb.mono gr, ?_⟩
        cases hq : u ws bs e1 S1 with
        | ok e2 S2 => rw [hq] at p; exact fun ρ2 F2 H2 σ2 g2 => p ρ2 F2 H2 σ2 (gr.trans g2)
        | ex c us S2 => exact absurd hq (hu _ _ _ _ _ _ _)
        | stuck => rw [hq] at p; exact p
      | ex c us S1 => simp only [ht, Out.bind_ex] at p; exact p
      | stuck => simp only [ht, Out.bind_stuck] at p; exact p⟩
/-- a tuple of targets -/
def tTup (n : Nat) (t : TMs) : TM := fun w bs env S => match tupOf w with
  | some ws => if ws.length = n then t ws bs env S else .stuck
  | none => .stuck
theorem rg_tup (hK : g.K = X.K) {k : Nat} {t : TMs} {n : Nat} (hc : X.calm = true) (h : PGs X es (rdTgs g B t)) (hn : (assignEach es X.env).length = n := by rfl) (hst : (assignEach es X.env).findIdx? (·.1) = none := by rfl) :
    PG X (.Tuple es k pos) (rdTg g B (tTup n t)) := (pg_tup hc h hn hst).imp fun v σ H Q ⟨bs, ρ, F, N, env, S, w, s, e, r, p⟩ => by
  unfold tTup at p
  split at p
  · rename_i ws hw
    split at p
    · rename_i hl
      obtain ⟨a, vs, rfl, q, l⟩ := tup_of r hw
      rw [hK] at q
      exact ⟨a, vs, rfl, Same.sqT s.ex q, by rw [l.len]; exact hl, bs, ρ, F, N, env, S, ws, s, e, l, p⟩
    · exact p.elim
  · exact p.elim
/-- target = value -/
def sAsg (m : M W) (t : TM) : MS := fun bs env S => (m bs env S).so env fun w S1 => (t w bs env S1).so env fun env1 S2 => .nx env1 S2
theorem post_asg {o : Out Env} {env : Env} (e : EnvR g ρ F σ env) (h : PostS g B bs ρ F N D (o.so env fun env1 S2 => .nx env1 S2)) : PostG g B bs ρ F N σ D.nx o := by
  cases o with
  | ok e1 S1 => exact h
  | ex c ws S1 => exact fun ρ' F' H' d gr s' r => h ρ' F' H' σ d gr s' (e.mono gr) r
  | stuck => exact h
theorem rd_asg {m : M W} {t : TM} (D : Ends) (σ : L2.St) (H : Hp) (h : rdS g B (sAsg m t) D σ H) : tAsg (rd g B m) (rdTg g B t) D σ H := by
  obtain ⟨bs, ρ, F, N, env, S, s, e, p⟩ := h
  refine ⟨bs, ρ, F, N, env, S, s, e, (PostS.out (R := RW g) e p).imp fun x H1 ⟨ρ1, F1, wx, S1, g1, s1, r1, p1⟩ => ?_⟩
  exact ⟨bs, ρ1, F1, N, env, S1, wx, s1, e.mono g1, r1, post_asg (e.mono g1) p1⟩
theorem rs_asg {tg : Expr} {t : TM} (he : PE X e (rd g B ma)) (hg : PG X tg (rdTg g B t)) (hs : swapsWithSole [tg] e pos.line X.env = pure false := by rfl) (hw : swappedStores [tg] e X.env = pure none := by rfl)
    (h1 : (assignEach [tg] X.env).map (·.2) = [assign tg X.env] := by rfl) : PS X (.Assign [tg] e pos) (rdS g B (sAsg ma t)) := (ps_asg he hg hs hw h1).imp rd_asg
theorem rs_set {i : Nat} {x : Str} {pos' : Pos} (hN : X.N.Nodup) (he : PE X e (rd g B ma)) (hi : X.N[i]? = some x := by rfl) (hx : Loc X.env.scope x := by first | exact Or.inl rfl | exact Or.inr rfl) (hs : swapsWith e (some (.Name x pos')) pos.line X.env = pure false := by rfl)
    (hf : X.fn x = true ∨ X.env.scope.names.lookup x = some .local := by first | exact .inl rfl | exact .inr rfl | assumption) : PS X (.Assign [.Name x pos'] e pos) (rdS g B (sAsg ma (tName i))) :=
  (ps_set hN hi hx he hs hf).imp fun D σ H h => rdG_imp (rd_asg D σ H h) fun v H1 ⟨bs, ρ, F, N, env, S, w, s, e, r, p⟩ => p ρ F H1 _ (Grow.refl _ _) s (e.set i r)
/-- a, b = x, y -/
def sPar (i j : Nat) (ms : M (List W)) : MS := fun bs env S => (ms bs env S).so env fun ws S1 => match ws with
  | [w, u] => .nx ((env.set i (some w)).set j (some u)) S1
  | _ => .stuck
theorem rs_par {i j : Nat} {x y : Str} {px py pt : Pos} {kt k2 pt2} (hc : X.calm = true) (hN : X.N.Nodup) (hi : X.N[i]? = some x) (hj : X.N[j]? = some y) (hij : i ≠ j)
    (hx : X.env.scope.names.lookup x = some .local) (hy : X.env.scope.names.lookup y = some .local) (ha : PA X [a, b] (rdA g B ms))
    (hw : swappedStores [.Tuple [.Name x px, .Name y py] kt pt] (.Tuple [a, b] k2 pt2) X.env = pure (some [x, y]))
    (hs : swapsWithSole [.Tuple [.Name x px, .Name y py] kt pt] (.Tuple [a, b] k2 pt2) pos.line X.env = pure false := by rfl) :
    PS X (.Assign [.Tuple [.Name x px, .Name y py] kt pt] (.Tuple [a, b] k2 pt2) pos) (rdS g B (sPar i j ms)) := (ps_par hc hN hi hj hij hx hy ha hw hs).imp fun D σ H ⟨bs, ρ, F, N, env, S, s, e, p⟩ => by
  refine ⟨bs, ρ, F, N, env, S, s, e, (PostS.out (R := RWs g) e p).imp fun x H1 ⟨ρ1, F1, wx, S1, g1, s1, r1, p1⟩ => ?_⟩
  split at p1
  · obtain ⟨v, u, rfl, r2, r3⟩ := all_two r1
    exact ⟨v, u, rfl, p1 ρ1 F1 H1 _ (Grow.refl _ _) s1 (((e.mono g1).set i r2).set j r3)⟩
  · exact p1.elim
def sPar3 (i j l : Nat) (ms : M (List W)) : MS := fun bs env S => (ms bs env S).so env fun ws S1 => match ws with
  | [w, u, z] => .nx (((env.set i (some w)).set j (some u)).set l (some z)) S1
  | _ => .stuck
/-- name op= e -/
def sAug (i : Nat) (f : Op2) (m : M W) : MS := fun bs env S => match env[i]? with
  | some (some x) => (m bs env S).so env fun y S1 => match f bs x y S1 with
    | some (z, S2) => .nx (env.set i (some z)) S2
    | none => .stuck
  | _ => .stuck
theorem rs_aug {i : Nat} {x : Str} {op : Operator} {f : Op2} {pos' : Pos} (hN : X.N.Nodup) (he : PE X e (rd g B ma)) (ho : OpR X (inplaceOp op) (rd2 g f)) (hi : X.N[i]? = some x := by rfl) (hx : Loc X.env.scope x := by first | exact Or.inl rfl | exact Or.inr rfl)
    (hf : X.fn x = true ∨ X.env.scope.names.lookup x = some .local := by first | exact .inl rfl | exact .inr rfl | assumption) : PS X (.AugAssign (.Name x pos') op e pos) (rdS g B (sAug i f ma)) :=
  (ps_aug (ti := rd2 g f) hN hi hx he ho hf).imp fun D σ H ⟨bs, ρ, F, N, env, S, s, e, p⟩ => by
    unfold sAug at p
    split at p
    · rename_i w hw
      obtain ⟨v, h1, h2⟩ := e.at_ i w hw
      refine ⟨v, h1, bs, ρ, F, N, env, S, s, e, (PostS.out (R := RW g) e p).imp fun y H1 ⟨ρ1, F1, wx, S1, g1, s1, r1, p1⟩ => ?_⟩
      refine ⟨bs, ρ1, F1, N, S1, w, wx, s1, h2.mono g1, r1, ?_⟩
      cases hz : f bs w wx S1 with
      | none => rw [hz] at p1; exact p1
      | some q => obtain ⟨z, S2⟩ := q; rw [hz] at p1; exact fun ρ2 F2 H2 u g2 s2 r2 => p1 ρ2 F2 H2 _ g2 s2 (((e.mono g1).mono g2).set i r2)
    · exact p.elim
end
end Rf

namespace Rf
open PySem L2

/-! ### what is walked -/
inductive Iter where
  | items (ws : List W)
  | cell (n : Nat)
  | zip (a b : Iter)
  | enm (a : Iter)
def Iter.fuel : Iter → Nat
  | .items ws => ws.length + 1
  | .cell _ => 100000
  | .zip a _ => a.fuel
  | .enm a => a.fuel
/-- the item of a turn: none: it stops; nothing at all: it cannot go on -/
def Iter.next (it : Iter) (i : Nat) (S : Store) : Option (Option W) := match it with
  | .items ws => some ws[i]?
  | .cell n => match S[n]? with
    | some (.lst ws) => some ws[i]?
    | _ => none
  | .zip a b => match a.next i S, b.next i S with
    | some (some x), some (some y) => some (some (mkTup [x, y]))
    | some none, some _ => some none
    | some _, some none => some none
    | _, _ => none
  | .enm a => match a.next i S with
    | some (some x) => some (some (mkTup [.int i, x]))
    | some none => some none
    | none => none
def WalkOk (g : Gx) (J : It) (ρ : List Addr) (F : Hp) (it : Iter) : Prop := ∀ bs ρ' F' N' S' H' i, Grow ρ F ρ' F' → Sim g bs ρ' F' N' S' H' → match it.next i S' with
  | some (some w) => J.go i H' ∧ ∀ x H2, J.yld i H' x H2 → ∃ F2, Grow ρ' F' ρ' F2 ∧ Sim g bs ρ' F2 N' S' H2 ∧ Is g.K ρ' F2 x w
  | some none => J.stop i H'
  | none => True
def PostI (g : Gx) (B : WX) (bs : List Nat) (ρ : List Addr) (F N : Hp) (σ : L2.St) (R : It → Hp → Prop) : Out Iter → Prop
  | .ok it S' => ∀ ρ' F' H' J, Grow ρ F ρ' F' → Sim g bs ρ' F' N S' H' → WalkOk g J ρ' F' it → R J H'
  | .ex c ws S' => ∀ ρ' F' H' d, Grow ρ F ρ' F' → Sim g bs ρ' F' N S' H' → ExR g c ρ' F' H' d ws → B (.ref (g.cls c)) d σ H'
  | .stuck => False
def rdI (g : Gx) (B : WX) (m : M Iter) : TI := fun σ H R => ∃ bs ρ F N env S, Sim g bs ρ F N S H ∧ EnvR g ρ F σ env ∧ PostI g B bs ρ F N σ R (m bs env S)
section
variable {X : Cx} {g : Gx} {B : WX} {bs : List Nat} {ρ ρ1 : List Addr} {F F1 N : Hp} {D : Ends} {σ : L2.St}
theorem Post.iter {α β : Type} {R : List Addr → Hp → β → α → Prop} {Rr : It → Hp → Prop} {o : Out α} {f : α → Store → Out Iter} (h : PostI g B bs ρ F N σ Rr (o.bind f)) :
    Post g B R bs ρ F N σ (fun v H1 => ∃ ρ' F' a S', Grow ρ F ρ' F' ∧ Sim g bs ρ' F' N S' H1 ∧ R ρ' F' v a ∧ PostI g B bs ρ' F' N σ Rr (f a S')) o := by
  cases o with
  | ok a S1 =>
    refine fun ρ' F' H' v gr s' r => ⟨ρ', F', a, S1, gr, s', r, ?_⟩
    simp only [Out.bind_ok] at h
    cases hf : f a S1 with
    | ok it S2 => rw [hf] at h; exact fun ρ2 F2 H2 J g2 => h ρ2 F2 H2 J (gr.trans g2)
    | ex c ws S2 => rw [hf] at h; exact fun ρ2 F2 H2 d g2 => h ρ2 F2 H2 d (gr.trans g2)
    | stuck => rw [hf] at h; exact h
  | ex c ws S1 => exact h
  | stuck => exact h
variable {a b c e tg : Expr} {es : List Expr} {ma mb mc : M W} {ms : M (List W)} {pos : Pos} {st : Stmt} {rest : List Stmt}
/-- a sequence's items: a tuple or frozen list as it is; a cell by its place -/
def iterT (w : W) : Option Iter := (tupOf w).map .items
def iterL (S : Store) (w : W) : Option Iter := match w with
  | .dat (.list ds) => some (.items (ds.map .dat))
  | .lw ws => some (.items ws)
  | .loc n => match S[n]? with
    | some (.lst _) => some (.cell n)
    | _ => none
  | _ => none
theorem walk_tup {a : Addr} {vs : List V} {ws : List W} (q : SqT g.K F a vs) (l : IsAll g.K ρ F vs ws) : WalkOk g (Itt g.K a) ρ F (.items ws) := by
  intro bs ρ' F' N' S' H' i gr s
  have q' : SqT g.K H' a vs := Same.sqT s.ex (Same.sqT gr.ex q)
  show match (some ws[i]? : Option (Option W)) with
    | some (some w) => _
    | some none => _
    | none => True
  cases hw : ws[i]? with
  | some w =>
    obtain ⟨v, hv, r⟩ := l.get hw
    refine ⟨⟨vs, v, q', hv⟩, fun x H2 ⟨e, h⟩ => ?_⟩
    subst e
    have := h vs q'
    rw [hv] at this; cases this
    exact ⟨F', Grow.refl _ _, s, r.mono gr⟩
  | none => exact ⟨vs, q', by rw [l.len]; exact List.getElem?_eq_none_iff.mp hw⟩
theorem walk_lst {a : Addr} {vs : List V} {ws : List W} (q : SqL g.K F a vs) (l : IsAll g.K ρ F vs ws) : WalkOk g (Itl g.K a) ρ F (.items ws) := by
  intro bs ρ' F' N' S' H' i gr s
  have q' : SqL g.K H' a vs := s.ex.seq (gr.ex.seq q)
  show match (some ws[i]? : Option (Option W)) with
    | some (some w) => _
    | some none => _
    | none => True
  cases hw : ws[i]? with
  | some w =>
    obtain ⟨v, hv, r⟩ := l.get hw
    refine ⟨⟨vs, v, q', hv⟩, fun x H2 ⟨e, h⟩ => ?_⟩
    subst e
    have := h vs q'
    rw [hv] at this; cases this
    exact ⟨F', Grow.refl _ _, s, r.mono gr⟩
  | none => exact ⟨vs, q', by rw [l.len]; exact List.getElem?_eq_none_iff.mp hw⟩
theorem walk_cell {a : Addr} {n : Nat} (hn : ρ[n]? = some a) : WalkOk g (Itl g.K a) ρ F (.cell n) := by
  intro bs ρ' F' N' S' H' i gr s
  have hn' := gr.at hn
  show match (match S'[n]? with
    | some (.lst ws) => some ws[i]?
    | _ => none : Option (Option W)) with
    | some (some w) => _
    | some none => _
    | none => True
  cases hc : S'[n]? with
  | none => trivial
  | some c =>
    cases c with
    | lst ws =>
      obtain ⟨vs, e, l⟩ := s.cell n _ _ hc hn'
      have q' : SqL g.K H' a vs := SqL.of e
      cases hw : ws[i]? with
      | some w =>
        obtain ⟨v, hv, r⟩ := l.get hw
        simp only [hw]
        refine ⟨⟨vs, v, q', hv⟩, fun x H2 ⟨e2, h⟩ => ?_⟩
        subst e2
        have := h vs q'
        rw [hv] at this; cases this
        exact ⟨F', Grow.refl _ _, s, r⟩
      | none => simp only [hw]; exact ⟨vs, q', by rw [l.len]; exact List.getElem?_eq_none_iff.mp hw⟩
    | dic _ => trivial
    | ins _ _ => trivial
    | fz _ => trivial
def mItT (m : M W) : M Iter := fun bs env S => (m bs env S).bind fun w S1 => match iterT w with
  | some it => .ok it S1
  | none => .stuck
def mItL (m : M W) : M Iter := fun bs env S => (m bs env S).bind fun w S1 => match iterL S1 w with
  | some it => .ok it S1
  | none => .stuck
theorem ri_tup (hK : g.K = X.K) (h : PE X a (rd g B ma)) : PI X tg a (rdI g B (mItT ma)) := (pi_tup h).imp fun σ H R ⟨bs, ρ, F, N, env, S, s, e, p⟩ => by
  refine ⟨bs, ρ, F, N, env, S, s, e, (Post.iter (R := RW g) p).imp fun x H1 ⟨ρ1, F1, wx, S1, g1, s1, r1, p1⟩ => ?_⟩
  unfold iterT at p1
  cases hw : tupOf wx with
  | none => rw [hw] at p1; exact p1.elim
  | some ws =>
    rw [hw] at p1
    obtain ⟨a, vs, rfl, q, l⟩ := tup_of r1 hw
    rw [← hK]
    exact ⟨a, rfl, ⟨vs, Same.sqT s1.ex q⟩, p1 ρ1 F1 H1 _ (Grow.refl _ _) s1 (walk_tup q l)⟩
theorem ri_lst (hK : g.K = X.K) (h : PE X a (rd g B ma)) : PI X tg a (rdI g B (mItL ma)) := (pi_list h).imp fun σ H R ⟨bs, ρ, F, N, env, S, s, e, p⟩ => by
  refine ⟨bs, ρ, F, N, env, S, s, e, (Post.iter (R := RW g) p).imp fun x H1 ⟨ρ1, F1, wx, S1, g1, s1, r1, p1⟩ => ?_⟩
  rw [← hK]
  unfold iterL at p1
  cases wx with
  | dat d =>
    cases d <;> try exact p1.elim
    cases r1 with
    | dat r => cases r with
      | lst q r => exact ⟨_, rfl, ⟨_, SqL.of (s1.ex _ _ q)⟩, p1 ρ1 F1 H1 _ (Grow.refl _ _) s1 (walk_lst (SqL.of q) r.isAll)⟩
  | lw ws => cases r1 with
    | lw q r => exact ⟨_, rfl, ⟨_, s1.ex.seq q⟩, p1 ρ1 F1 H1 _ (Grow.refl _ _) s1 (walk_lst q r)⟩
  | tw ws => exact p1.elim
  | kt ws => exact p1.elim
  | loc n =>
    cases hc : S1[n]? with
    | none => simp only [hc] at p1; exact p1.elim
    | some c =>
      cases c with
      | lst ws =>
        simp only [hc] at p1
        cases r1 with
        | loc hn =>
          obtain ⟨vs, e, l⟩ := s1.cell n _ _ hc hn
          exact ⟨_, rfl, ⟨vs, SqL.of e⟩, p1 ρ1 F1 H1 _ (Grow.refl _ _) s1 (walk_cell hn)⟩
      | dic _ => simp only [hc] at p1; exact p1.elim
      | ins _ _ => simp only [hc] at p1; exact p1.elim
      | fz _ => simp only [hc] at p1; exact p1.elim
/-- range -/
def rangeW (lo hi : Int) : List W := (List.range (hi - lo).toNat).map fun (i : Nat) => W.int (lo + (i : Int))
theorem walk_range {lo : Int} {n : Nat} : WalkOk g (Itr lo n) ρ F (.items ((List.range n).map fun (i : Nat) => W.int (lo + (i : Int)))) := by
  intro bs ρ' F' N' S' H' i gr s
  show match (some ((List.range n).map fun (i : Nat) => W.int (lo + (i : Int)))[i]? : Option (Option W)) with
    | some (some w) => _
    | some none => _
    | none => True
  rw [List.getElem?_map]
  by_cases h : i < n
  · rw [List.getElem?_range h]
    refine ⟨h, fun x H2 ⟨e, q⟩ => ?_⟩
    subst e q
    exact ⟨F', Grow.refl _ _, s, .dat (.int _)⟩
  · rw [List.getElem?_eq_none (by simpa using h)]
    show n ≤ i
    omega
/-- decided, but not by unfolding -/
@[irreducible] def rdec (n : Int) : Decidable (n < 4611686018427387904 ∧ -4611686018427387904 ≤ n) := inferInstance
def mRng1 (ms : M (List W)) : M Iter := fun bs env S => (ms bs env S).bind fun ws S1 => match ws with
  | [.dat (.int n)] => @ite _ (n < 4611686018427387904 ∧ -4611686018427387904 ≤ n) (rdec n) (.ok (.items (rangeW 0 n)) S1) .stuck
  | _ => .stuck
def mRng2 (ms : M (List W)) : M Iter := fun bs env S => (ms bs env S).bind fun ws S1 => match ws with
  | [.dat (.int i), .dat (.int n)] => @ite _ ((n < 4611686018427387904 ∧ -4611686018427387904 ≤ n) ∧ (i < 4611686018427387904 ∧ -4611686018427387904 ≤ i)) (@instDecidableAnd _ _ (rdec n) (rdec i)) (.ok (.items (rangeW i n)) S1) .stuck
  | _ => .stuck
theorem ri_range1 {p : Pos} (hg : Gl X "range") (hm : X.mg "range" = none) (ha : PA X [a] (rdA g B ms)) (hs : starEach [a] X.env = [(false, eval a X.env)] := by rfl) : PI X tg (.Call (.Name "range" p) [a] [] pos) (rdI g B (mRng1 ms)) :=
  (pi_range1 hg hm ha hs).imp fun σ H R ⟨bs, ρ, F, N, env, S, s, e, p⟩ => by
    refine ⟨bs, ρ, F, N, env, S, s, e, (Post.iter (R := RWs g) p).imp fun x H1 ⟨ρ1, F1, wx, S1, g1, s1, r1, p1⟩ => ?_⟩
    split at p1
    · split at p1
      · rename_i n hl
        obtain ⟨v, rfl, r2⟩ := all_one r1
        rw [is_int r2]
        refine ⟨n, rfl, by omega, by omega, p1 ρ1 F1 H1 _ (Grow.refl _ _) s1 ?_⟩
        have e : (n - 0).toNat = n.toNat := by simp
        unfold rangeW; rw [e]; exact walk_range
      · exact p1.elim
    · exact p1.elim
theorem ri_range2 {p : Pos} (hg : Gl X "range") (hm : X.mg "range" = none) (ha : PA X [a, b] (rdA g B ms)) (hs : starEach [a, b] X.env = [(false, eval a X.env), (false, eval b X.env)] := by rfl) (hs2 : starEach [b] X.env = [(false, eval b X.env)] := by rfl) :
    PI X tg (.Call (.Name "range" p) [a, b] [] pos) (rdI g B (mRng2 ms)) :=
  (pi_range2 hg hm ha hs hs2).imp fun σ H R ⟨bs, ρ, F, N, env, S, s, e, p⟩ => by
    refine ⟨bs, ρ, F, N, env, S, s, e, (Post.iter (R := RWs g) p).imp fun x H1 ⟨ρ1, F1, wx, S1, g1, s1, r1, p1⟩ => ?_⟩
    split at p1
    · split at p1
      · rename_i i n hl
        obtain ⟨v, u, rfl, r2, r3⟩ := all_two r1
        rw [is_int r2, is_int r3]
        exact ⟨i, n, rfl, ⟨by omega, by omega, by omega, by omega⟩, p1 ρ1 F1 H1 _ (Grow.refl _ _) s1 walk_range⟩
      · exact p1.elim
    · exact p1.elim

/-! ### for -/
/-- a body's end at a turn -/
def SO.turn (o : SO) (f : Env → Store → SO) : SO := match o with
  | .nx env S => f env S
  | .ct env S => f env S
  | .bk env S => .nx env S
  | o => o
def forG (it : Iter) (bd : W → MS) : Nat → Nat → MS
  | 0, _ => fun _ _ _ => .stuck
  | f + 1, i => fun bs env S => match it.next i S with
    | none => .stuck
    | some none => .nx env S
    | some (some w) => (bd w bs env S).turn fun e S1 => forG it bd f (i + 1) bs e S1
def tBody (t : TM) (m : MS) : W → MS := fun w bs env S => (t w bs env S).so env fun e S1 => m bs e S1
def sFor (mi : M Iter) (t : TM) (m : MS) : MS := fun bs env S => (mi bs env S).so env fun it S1 => forG it (tBody t m) it.fuel 0 bs env S1
theorem rs_for {mi : M Iter} {t : TM} {m : MS} {iter : Expr} {body : List Stmt} (hp : PassesOwn (model X.prog X.w) X.A X.env X.xe) (hc : X.calm = true) (hi : PI X tg iter (rdI g B mi)) (hg : PG X tg (rdTg g B t)) (hb : PSs X body (rdS g B m))
    (hs : ∀ x, foldedSetIterable iter X.env x = pure x := by intro _; rfl) : PS X (.For tg iter body [] pos) (rdS g B (sFor mi t m)) := (ps_for hp hc hi hg hb hs).imp fun D σ H ⟨bs, ρ, F, N, env, S, s, e, p⟩ => by
  refine ⟨bs, ρ, F, N, env, S, s, e, ?_⟩
  unfold sFor at p
  cases hm : mi bs env S with
  | stuck => rw [hm] at p; exact p
  | ex c ws S1 => rw [hm] at p; exact fun ρ' F' H' d gr s' r => p ρ' F' H' σ d gr s' (e.mono gr) r
  | ok it S1 =>
    rw [hm] at p
    intro ρ1 F1 H1 J g1 s1 wk
    have p1 : PostS g B bs ρ1 F1 N D (forG it (tBody t m) it.fuel 0 bs env S1) := PostS.grow g1 p
    refine ⟨fun i m' σ' H' => ∃ ρ' F' env' S', Grow ρ1 F1 ρ' F' ∧ Sim g bs ρ' F' N S' H' ∧ EnvR g ρ' F' σ' env' ∧ PostS g B bs ρ' F' N D (forG it (tBody t m) m' i bs env' S'), ⟨it.fuel, ρ1, F1, env, S1, Grow.refl _ _, s1, e.mono g1, p1⟩, ?_⟩
    rintro i m' σ' H' ⟨ρ', F', env', S', g', s', e', p'⟩
    cases m' with
    | zero => exact p'.elim
    | succ f =>
      unfold forG at p'
      have w := wk bs ρ' F' N S' H' i g' s'
      cases hx : it.next i S' with
      | none => rw [hx] at p'; exact p'.elim
      | some o =>
        cases o with
        | none => rw [hx] at p' w; exact .inl ⟨w, p' ρ' F' H' σ' (Grow.refl _ _) s' e'⟩
        | some x =>
          rw [hx] at p' w
          refine .inr ⟨w.1, fun σ2 H2 => ∃ ρ2 F2 env2 S2, Grow ρ' F' ρ2 F2 ∧ Sim g bs ρ2 F2 N S2 H2 ∧ EnvR g ρ2 F2 σ2 env2 ∧ PostS g B bs ρ2 F2 N D (forG it (tBody t m) f (i + 1) bs env2 S2), fun σ2 H2 ⟨ρ2, F2, env2, S2, g2, s2, e2, p2⟩ => ⟨f, Nat.lt_succ_self f, ρ2, F2, env2, S2, g'.trans g2, s2, e2, p2⟩, fun v H2 y => ?_⟩
          obtain ⟨F2, g2, s2, r2⟩ := w.2 v H2 y
          refine ⟨bs, ρ', F2, N, env', S', x, s2, e'.mono g2, r2, ?_⟩
          have p2 := PostS.grow g2 p'
          unfold tBody at p2
          cases ht : t x bs env' S' with
          | stuck => simp only [ht, Out.so, SO.turn] at p2; exact p2
          | ex c ws S3 => simp only [ht, Out.so, SO.turn] at p2; exact fun ρ3 F3 H3 d g3 s3 r3 => p2 ρ3 F3 H3 σ' d g3 s3 ((e'.mono g2).mono g3) r3
          | ok env3 S3 =>
            simp only [ht, Out.so] at p2
            intro ρ3 F3 H3 σ3 g3 s3 e3
            refine ⟨bs, ρ3, F3, N, env3, S3, s3, e3, ?_⟩
            have p3 := PostS.grow g3 p2
            cases ho : m bs env3 S3 with
            | nx e4 S4 => simp only [ho, SO.turn] at p3; exact fun ρ4 F4 H4 σ4 g4 s4 e4' => ⟨ρ4, F4, e4, S4, g2.trans (g3.trans g4), s4, e4', PostS.grow g4 p3⟩
            | ct e4 S4 => simp only [ho, SO.turn] at p3; exact fun ρ4 F4 H4 σ4 g4 s4 e4' => ⟨ρ4, F4, e4, S4, g2.trans (g3.trans g4), s4, e4', PostS.grow g4 p3⟩
            | bk e4 S4 => simp only [ho, SO.turn] at p3; exact p3
            | rt w4 S4 => simp only [ho, SO.turn] at p3; exact p3
            | ex c ws e4 S4 => simp only [ho, SO.turn] at p3; exact p3
            | stuck => simp only [ho, SO.turn] at p3; exact p3
end
end Rf

namespace Rf
open PySem L2

/-! ### what is hidden while it is made -/
section
variable {g : Gx} {bs : List Nat} {ρ : List Addr} {F N H : Hp} {S : Store} {D : Addr} {o : HO}
theorem Sim.freeN (s : Sim g bs ρ F N S H) (h : H D = none) : F D = none ∧ N D = none ∧ D ∉ ρ :=
  ⟨s.ex.free h, s.hid.free h, fun z => by obtain ⟨o, e⟩ := s.has z; rw [h] at e; cases e⟩
theorem Sim.hide (s : Sim g bs ρ F N S H) (h : H D = none) (hl : Mu (some o) := by exact True.intro) : Sim g bs ρ F (upd N D o) S (upd H D o) := by
  obtain ⟨h1, h2, h3⟩ := s.freeN h
  refine ⟨s.len, s.nd, fun a u e => ?_, s.fr, fun n c a e1 e2 => ?_, fun a u e => ?_, fun a u e => ?_, (fun a u e => by
    by_cases z : a = D
    · subst z; rw [upd_same] at e; cases e; exact hl
    · rw [upd_ne z] at e; exact s.nl a u e), s.bot, tabs_new h s.tab, s.nt⟩
  · rw [upd_ne (ne_of_none e h1)]; exact s.ex a u e
  · exact (s.cell n c a e1 e2).mono (Grow.refl _ _) (by rw [upd_ne (ne_mem (List.mem_of_getElem? e2) h3)])
  · by_cases z : a = D
    · subst z; rw [upd_same] at e ⊢; exact e
    · rw [upd_ne z] at e ⊢; exact s.hid a u e
  · by_cases z : a = D
    · subst z; exact ⟨h1, h3⟩
    · rw [upd_ne z] at e; exact s.nf a u e
theorem Sim.hidNT (s : Sim g bs ρ F (upd N D o) S H) : ∀ u, H D = some u → NT u := fun u e => by
  have h := s.hid D o upd_same
  rw [h] at e; cases e
  exact (s.nl D o upd_same).nt
theorem Sim.rehide {o' : HO} (s : Sim g bs ρ F (upd N D o) S H) (hl : Mu (some o') := by exact True.intro) : Sim g bs ρ F (upd N D o') S (upd H D o') := by
  obtain ⟨h1, h3⟩ := s.nf D o upd_same
  refine ⟨s.len, s.nd, fun a u e => ?_, s.fr, fun n c a e1 e2 => ?_, fun a u e => ?_, fun a u e => ?_, (fun a u e => by
    by_cases z : a = D
    · subst z; rw [upd_same] at e; cases e; exact hl
    · rw [upd_ne z] at e; exact s.nl a u (by rw [upd_ne z]; exact e)), s.bot, tabs_put s.hidNT s.tab, s.nt⟩
  · rw [upd_ne (ne_of_none e h1)]; exact s.ex a u e
  · exact (s.cell n c a e1 e2).mono (Grow.refl _ _) (by rw [upd_ne (ne_mem (List.mem_of_getElem? e2) h3)])
  · by_cases z : a = D
    · subst z; rw [upd_same] at e ⊢; exact e
    · rw [upd_ne z] at e ⊢; exact s.hid a u (by rw [upd_ne z]; exact e)
  · by_cases z : a = D
    · subst z; exact ⟨h1, h3⟩
    · exact s.nf a u (by rw [upd_ne z] at e ⊢; exact e)
theorem Sim.showF (s : Sim g bs ρ F (upd N D o) S H) (hn : N D = none) : Sim g bs ρ (upd F D o) N S H ∧ Grow ρ F ρ (upd F D o) := by
  obtain ⟨h1, h3⟩ := s.nf D o upd_same
  have gr : Grow ρ F ρ (upd F D o) := ⟨⟨[], by simp⟩, same_new h1⟩
  refine ⟨⟨s.len, s.nd, fun a u e => ?_, fun n c a e1 e2 e3 => ?_, fun n c a e1 e2 => (s.cell n c a e1 e2).mono gr rfl, fun a u e => ?_, fun a u e => ?_, (fun a u e => s.nl a u (by rw [upd_ne (ne_of_none e hn)]; exact e)), s.bot, s.tab, nt_upd s.nt (s.nl D o upd_same).nt.1⟩, gr⟩
  · by_cases z : a = D
    · subst z; rw [upd_same] at e; rw [← e]; exact s.hid a o upd_same
    · rw [upd_ne z] at e; exact s.ex a u e
  · rw [upd_ne (ne_mem (List.mem_of_getElem? e2) h3)]; exact s.fr n c a e1 e2 e3
  · exact s.hid a u (by rw [upd_ne (ne_of_none e hn)]; exact e)
  · have z := ne_of_none e hn
    rw [upd_ne z]; exact s.nf a u (by rw [upd_ne z]; exact e)
theorem Sim.showC {c : Cell} (s : Sim g bs ρ F (upd N D o) S H) (hn : N D = none) (hc : CellOk g (ρ ++ [D]) F H D c) : Sim g bs (ρ ++ [D]) F N (S ++ [c]) H ∧ Grow ρ F (ρ ++ [D]) F := by
  obtain ⟨h1, h3⟩ := s.nf D o upd_same
  have gr : Grow ρ F (ρ ++ [D]) F := ⟨⟨[D], rfl⟩, Same.refl F⟩
  refine ⟨⟨by simp [s.len], ?_, s.ex, fun n c' a e1 e2 e3 => ?_, fun n c' a e1 e2 => ?_, fun a u e => ?_, fun a u e => ?_, (fun a u e => s.nl a u (by rw [upd_ne (ne_of_none e hn)]; exact e)), fun b hb => ?_, s.tab, s.nt⟩, gr⟩
  · rw [List.nodup_append]; exact ⟨s.nd, by simp, fun a ha b hb z => by simp at hb; subst hb; subst z; exact h3 ha⟩
  · by_cases hl : n < S.length
    · rw [List.getElem?_append_left hl] at e1
      rw [List.getElem?_append_left (by rw [s.len]; exact hl)] at e2
      exact s.fr n c' a e1 e2 e3
    · have hl2 := (List.getElem?_eq_some_iff.mp e1).1
      have e : n = S.length := by simp at hl2; omega
      subst e
      rw [← s.len] at e2; simp at e2
      subst e2; exact h1
  · by_cases hl : n < S.length
    · rw [List.getElem?_append_left hl] at e1
      rw [List.getElem?_append_left (by rw [s.len]; exact hl)] at e2
      exact (s.cell n c' a e1 e2).mono gr rfl
    · have hl2 := (List.getElem?_eq_some_iff.mp e1).1
      have e : n = S.length := by simp at hl2; omega
      subst e
      simp at e1
      rw [← s.len] at e2; simp at e2
      subst e1; subst e2
      exact hc
  · exact s.hid a u (by rw [upd_ne (ne_of_none e hn)]; exact e)
  · have z := ne_of_none e hn
    have w := s.nf a u (by rw [upd_ne z]; exact e)
    refine ⟨w.1, fun ha => ?_⟩
    rcases List.mem_append.mp ha with ha | ha
    · exact w.2 ha
    · simp at ha; exact z ha
  · obtain ⟨b1, b2⟩ := s.bot b hb
    refine ⟨by simp; omega, fun k c' hk e => b2 k c' hk ?_⟩
    rw [List.getElem?_append_left (by omega)] at e
    exact e
/-- a list that was hidden comes to light -/
theorem show_ok {k : Bool} {vs : List V} {ws : List W} {Q : VK} (s : Sim g bs ρ F (upd N D (.lst vs)) S H) (hn : N D = none) (r : IsAll g.K ρ F vs ws)
    (h : ∀ ρ' F' H' v, Grow ρ F ρ' F' → Sim g bs ρ' F' N (newL k ws S).2 H' → Is g.K ρ' F' v (newL k ws S).1 → Q v H') : Q (.ref D) H := by
  cases k with
  | true =>
    obtain ⟨s', gr⟩ := s.showC (c := .lst ws) hn ⟨vs, s.hid D _ upd_same, r.mono ⟨⟨[D], rfl⟩, Same.refl F⟩⟩
    refine h _ _ _ _ gr s' (.loc ?_)
    show (ρ ++ [D])[S.length]? = some D
    rw [← s.len]; simp
  | false =>
    obtain ⟨s', gr⟩ := s.showF hn
    exact h _ _ _ _ gr s' (is_mkLst upd_same (r.mono gr))
end

/-! ### targets of comprehensions -/
def wipeE (env : Env) : List Nat → Env
  | [] => env
  | v :: vs => (wipeE env vs).set v none
theorem EnvR.clr {g : Gx} {ρ : List Addr} {F : Hp} {σ : L2.St} {env : Env} (e : EnvR g ρ F σ env) (i : Nat) : EnvR g ρ F (σ.set i none) (env.set i none) := by
  refine ⟨by simp [e.len], fun j x hj => ?_, e.more⟩
  by_cases z : i = j
  · subst z
    have hl := (List.getElem?_eq_some_iff.mp hj).1
    simp only [List.length_set] at hl
    rw [List.getElem?_set_self hl] at hj
    cases hj
  · rw [List.getElem?_set_ne z] at hj ⊢
    exact e.at_ j x hj
theorem EnvR.wipe {g : Gx} {ρ : List Addr} {F : Hp} {σ : L2.St} {env : Env} (e : EnvR g ρ F σ env) : ∀ vs : List Nat, EnvR g ρ F (wipe σ vs) (wipeE env vs)
  | [] => e
  | v :: vs => (EnvR.wipe e vs).clr v
theorem set_wipe {σ : L2.St} {i : Nat} {x : Option V} : ∀ {vs : List Nat}, i ∈ vs → wipe (σ.set i x) vs = wipe σ vs
  | v :: vs, h => by
    unfold wipe
    by_cases z : i ∈ vs
    · rw [set_wipe z]
    · have hv : i = v := by
        rcases List.mem_cons.mp h with h | h
        · exact h
        · exact absurd h z
      subst hv
      have : wipe (σ.set i x) vs = (wipe σ vs).set i x := by
        clear h
        induction vs with
        | nil => rfl
        | cons u us ih =>
          unfold wipe
          rw [ih (fun h => z (List.mem_cons_of_mem _ h)), List.set_comm]
          exact fun h => z (by rw [h]; exact List.mem_cons_self ..)
      rw [this, List.set_set]
def rdTc (g : Gx) (B : WX) (vs : List Nat) (t : TM) : TG := fun v σ H Q => ∃ bs ρ F N env S w, Sim g bs ρ F N S H ∧ EnvR g ρ F σ env ∧ Is g.K ρ F v w ∧ PostG g B bs ρ F N σ (fun σ' H' => wipe σ' vs = wipe σ vs → Q σ' H') (t w bs env S)
def rdTcs (g : Gx) (B : WX) (vs : List Nat) (t : TMs) : TGs := fun us σ H Q => ∃ bs ρ F N env S ws, Sim g bs ρ F N S H ∧ EnvR g ρ F σ env ∧ IsAll g.K ρ F us ws ∧ PostG g B bs ρ F N σ (fun σ' H' => wipe σ' vs = wipe σ vs → Q σ' H') (t ws bs env S)
section
variable {X : Cx} {g : Gx} {B : WX} {bs : List Nat} {ρ ρ1 : List Addr} {F F1 N : Hp} {σ : L2.St} {vs : List Nat} {e : Expr} {es : List Expr} {pos : Pos}
theorem rc_name {i : Nat} {x : Str} (hN : X.N.Nodup) (hv : i ∈ vs := by decide) (hi : X.N[i]? = some x := by rfl) (hx : Loc X.env.scope x := by first | exact Or.inl rfl | exact Or.inr rfl) (hf : X.fn x = true ∨ X.env.scope.names.lookup x = some .local := by first | exact .inl rfl | exact .inr rfl | assumption) : PG X (.Name x pos) (rdTc g B vs (tName i)) :=
  (pg_name hN hi hx hf).imp fun v σ H Q ⟨bs, ρ, F, N, env, S, w, s, e, r, p⟩ => p ρ F H _ (Grow.refl _ _) s (e.set i r) (set_wipe hv)
theorem rcs_nil : PGs X [] (rdTcs g B vs tNil) := ⟨fun pins s σ H us zs Q I rv ⟨bs, ρ, F, N, env, S, ws, s1, e, r, p⟩ => by
  refine pgs_nil.run pins s σ H us zs Q I rv ?_
  cases ws with
  | nil => cases r; exact ⟨rfl, p ρ F H σ (Grow.refl _ _) s1 e rfl⟩
  | cons w ws => exact p.elim⟩
theorem rcs_cons {t : TM} {u : TMs} (h1 : PG X e (rdTc g B vs t)) (h2 : PGs X es (rdTcs g B vs u)) (hu : ∀ ws bs env S c us S1, u ws bs env S ≠ .ex c us S1)
    (hs : (assignEach (e :: es) X.env).map (·.2) = assign e X.env :: (assignEach es X.env).map (·.2) := by rfl) : PGs X (e :: es) (rdTcs g B vs (tCons t u)) := ⟨fun pins s σ H us zs Q I rv ⟨bs, ρ, F, N, env, S, ws, s1, e, r, p⟩ => by
  refine (pgs_cons h1 h2 hs).run pins s σ H us zs Q I rv ?_
  cases ws with
  | nil => exact p.elim
  | cons w ws =>
    cases r with
    | @cons v vs' _ _ ra rb =>
      refine ⟨v, vs', rfl, bs, ρ, F, N, env, S, w, s1, e, ra, ?_⟩
      unfold tCons at p
      cases ht : t w bs env S with
      | ok e1 S1 =>
        simp only [ht, Out.bind_ok] at p
        intro ρ' F' H' σ' gr s' e' w1
        refine ⟨bs, ρ', F', N, e1, S1, ws, s', e', rb.mono gr, ?_⟩
        cases hq : u ws bs e1 S1 with
        | ok e2 S2 => rw [hq] at p; exact fun ρ2 F2 H2 σ2 g2 s2 e2' w2 => p ρ2 F2 H2 σ2 (gr.trans g2) s2 e2' (w2.trans w1)
        | ex c us S2 => exact absurd hq (hu _ _ _ _ _ _ _)
        | stuck => rw [hq] at p; exact p
      | ex c us S1 => simp only [ht, Out.bind_ex] at p; exact p
      | stuck => simp only [ht, Out.bind_stuck] at p; exact p⟩
theorem rc_tup (hK : g.K = X.K) {k : Nat} {t : TMs} {n : Nat} (hc : X.calm = true) (h : PGs X es (rdTcs g B vs t)) (hn : (assignEach es X.env).length = n := by rfl) (hst : (assignEach es X.env).findIdx? (·.1) = none := by rfl) :
    PG X (.Tuple es k pos) (rdTc g B vs (tTup n t)) := (pg_tup hc h hn hst).imp fun v σ H Q ⟨bs, ρ, F, N, env, S, w, s, e, r, p⟩ => by
  unfold tTup at p
  split at p
  · rename_i ws hw
    split at p
    · rename_i hl
      obtain ⟨a, vs, rfl, q, l⟩ := tup_of r hw
      rw [hK] at q
      exact ⟨a, vs, rfl, Same.sqT s.ex q, by rw [l.len]; exact hl, bs, ρ, F, N, env, S, ws, s, e, l, p⟩
    · exact p.elim
  · exact p.elim

/-! ### comprehensions -/
def NoB : WX := fun _ _ _ _ => False
def mYes : M Bool := fun _ _ S => .ok true S
theorem rts_nil {B : WX} : PTs X [] (rdT g B mYes) := ⟨fun pins s σ H Q I ⟨bs, ρ, F, N, env, S, s1, e, p⟩ => pts_nil.run pins s σ H Q I (p ρ F H true (Grow.refl _ _) s1 rfl)⟩
theorem rts_one {B : WX} {c : Expr} {m : M Bool} (h : PT X c (rdT g B m)) : PTs X [c] (rdT g B m) := pts_one h
/-- no exception goes out of a comprehension's turns -/
def Out.bindC {α β : Type} : Out α → (α → Store → Out β) → Out β
  | .ok a S, f => f a S
  | _, _ => .stuck
@[simp] theorem Out.bindC_ok {α β : Type} (a : α) (S : Store) (f : α → Store → Out β) : (Out.ok a S).bindC f = f a S := rfl
def compG (it : Iter) (t : TM) (c : M Bool) (e : M W) : Nat → Nat → List W → M (List W)
  | 0, _, _ => fun _ _ _ => .stuck
  | f + 1, i, acc => fun bs env S => match it.next i S with
    | none => .stuck
    | some none => .ok acc S
    | some (some w) => (t w bs env S).bindC fun env1 S1 => (c bs env1 S1).bindC fun b S2 =>
      if b = true then (e bs env1 S2).bindC fun y S3 => if acc.length < 100000 then compG it t c e f (i + 1) (acc ++ [y]) bs env S3 else .stuck
      else compG it t c e f (i + 1) acc bs env S2
def mComp (k : Bool) (mi : M Iter) (vs : List Nat) (t : TM) (c : M Bool) (e : M W) : M W := fun bs env S => (mi bs env S).bind fun it S1 =>
  (compG it t c e it.fuel 0 [] bs (wipeE env vs) S1).bind fun ws S2 => .ok (newL k ws S2).1 (newL k ws S2).2
theorem Post.bindC {α β γ δ ε : Type} {R1 : List Addr → Hp → β → α → Prop} {R2 : List Addr → Hp → δ → γ → Prop} {σ' : L2.St} {Q : δ → Hp → Prop} {o : Out α} {f : α → Store → Out ε} {f2 : ε → Store → Out γ} {N' : Hp}
    (h : Post g B R2 bs ρ F N σ Q ((o.bindC f).bind f2)) :
    Post g NoB R1 bs ρ F N' σ' (fun v H1 => ∃ ρ' F' a S', Grow ρ F ρ' F' ∧ Sim g bs ρ' F' N' S' H1 ∧ R1 ρ' F' v a ∧ Post g B R2 bs ρ' F' N σ Q ((f a S').bind f2)) o := by
  cases o with
  | ok a S1 => exact fun ρ' F' H' v gr s' r => ⟨ρ', F', a, S1, gr, s', r, Post.grow gr h⟩
  | ex c ws S1 => exact h.elim
  | stuck => exact h.elim
end
end Rf

namespace Rf
open PySem L2
section
variable {X : Cx} {g : Gx} {B : WX} {bs : List Nat} {ρ ρ1 : List Addr} {F F1 N N' : Hp} {σ σ' : L2.St} {vs : List Nat} {e : Expr} {es : List Expr} {pos : Pos}
theorem PostG.bindC {γ δ ε : Type} {R2 : List Addr → Hp → δ → γ → Prop} {Q : δ → Hp → Prop} {o : Out Env} {f : Env → Store → Out ε} {f2 : ε → Store → Out γ}
    (h : Post g B R2 bs ρ F N σ Q ((o.bindC f).bind f2)) {Q' : L2.St → Hp → Prop}
    (i : ∀ ρ' F' H' σ2 e2 S', Grow ρ F ρ' F' → Sim g bs ρ' F' N' S' H' → EnvR g ρ' F' σ2 e2 → Post g B R2 bs ρ' F' N σ Q ((f e2 S').bind f2) → Q' σ2 H') : PostG g NoB bs ρ F N' σ' Q' o := by
  cases o with
  | ok a S1 => exact fun ρ' F' H' σ2 gr s' r => i ρ' F' H' σ2 a S1 gr s' r (Post.grow gr h)
  | ex c ws S1 => exact h.elim
  | stuck => exact h.elim
theorem wipe_wipe {ws : List Nat} : ∀ {vs : List Nat}, (∀ i ∈ vs, i ∈ ws) → wipe (wipe σ vs) ws = wipe σ ws
  | [], _ => rfl
  | v :: vs, h => by
    show wipe ((wipe σ vs).set v none) ws = _
    rw [set_wipe (h v (List.mem_cons_self ..)), wipe_wipe fun i hi => h i (List.mem_cons_of_mem _ hi)]
def finL (k : Bool) : List W → Store → Out W := fun ws S2 => .ok (newL k ws S2).1 (newL k ws S2).2
theorem IsAll.snoc {K : PySem.W.Frag} {v : V} {w : W} : ∀ {ws : List W} {us : List V}, IsAll K ρ F us ws → Is K ρ F v w → IsAll K ρ F (us ++ [v]) (ws ++ [w])
  | [], _, h, r => by cases h; exact .cons r .nil
  | _ :: _, _, h, r => by
    cases h with
    | cons a b => exact .cons a (IsAll.snoc b r)
/-- a turn's end: the item is put behind -/
theorem comp_put {D : Addr} {accv : List V} {acc : List W} {S : Store} {H : Hp} {yv : V} {y : W} (s : Sim g bs ρ F (upd N D (.lst accv)) S H) (l : IsAll g.K ρ F accv acc) (r : Is g.K ρ F yv y) (hl : acc.length < 100000) :
    ∃ a, H D = some (.lst a) ∧ a.length < sizeLine ∧ Sim g bs ρ F (upd N D (.lst (a ++ [yv]))) S (upd H D (.lst (a ++ [yv]))) ∧ IsAll g.K ρ F (a ++ [yv]) (acc ++ [y]) :=
  ⟨accv, s.hid D _ upd_same, by rw [l.len]; exact Nat.lt_of_lt_of_le hl (by decide), s.rehide, l.snoc r⟩
theorem rd_lc {k : Bool} {mi : M Iter} {t : TM} {mc : M Bool} {me : M W} {vs : List Nat} (σ : L2.St) (H : Hp) (Q : VK) (h : rd g B (mComp k mi vs t mc me) σ H Q) : tLc (rdI g B mi) (rdTc g NoB vs t) (rdT g NoB mc) (rd g NoB me) vs σ H Q := by
  obtain ⟨bs, ρ, F, N, env, S, s, e, p⟩ := h
  refine ⟨bs, ρ, F, N, env, S, s, e, ?_⟩
  unfold mComp at p
  cases hm : mi bs env S with
  | stuck => rw [hm] at p; exact p
  | ex c ws S1 => rw [hm] at p; exact p
  | ok it S1 =>
    rw [hm] at p
    intro ρ1 F1 H1 J g1 s1 wk D hD
    obtain ⟨fD, nD, rD⟩ := s1.freeN hD
    have p1 : Post g B (RW g) bs ρ1 F1 N σ Q ((compG it t mc me it.fuel 0 [] bs (wipeE env vs) S1).bind (finL k)) := Post.grow g1 p
    have ev := (e.mono g1).wipe vs
    refine ⟨fun i m H' => ∃ ρ' F' accv acc S', Grow ρ1 F1 ρ' F' ∧ Sim g bs ρ' F' (upd N D (.lst accv)) S' H' ∧ IsAll g.K ρ' F' accv acc ∧ Post g B (RW g) bs ρ' F' N σ Q ((compG it t mc me m i acc bs (wipeE env vs) S').bind (finL k)), ⟨it.fuel, ρ1, F1, [], [], S1, Grow.refl _ _, s1.hide hD, .nil, p1⟩, ?_⟩
    rintro i m H' ⟨ρ', F', accv, acc, S', g', s', l', p'⟩
    cases m with
    | zero => exact p'.elim
    | succ f =>
      unfold compG at p'
      have w := wk bs ρ' F' _ S' H' i g' s'
      cases hx : it.next i S' with
      | none => rw [hx] at p'; exact p'.elim
      | some o =>
        cases o with
        | none => simp only [hx] at p' w; exact .inl ⟨w, show_ok s' nD l' p'⟩
        | some x =>
          simp only [hx] at p' w
          refine .inr ⟨w.1, fun H2 => ∃ ρ2 F2 accv acc S2, Grow ρ' F' ρ2 F2 ∧ Sim g bs ρ2 F2 (upd N D (.lst accv)) S2 H2 ∧ IsAll g.K ρ2 F2 accv acc ∧ Post g B (RW g) bs ρ2 F2 N σ Q ((compG it t mc me f (i + 1) acc bs (wipeE env vs) S2).bind (finL k)), fun H2 ⟨ρ2, F2, accv, acc, S2, g2, s2, l2, p2⟩ => ⟨f, Nat.lt_succ_self f, ρ2, F2, accv, acc, S2, g'.trans g2, s2, l2, p2⟩, fun v H2 y => ?_⟩
          obtain ⟨F2, g2, s2, r2⟩ := w.2 v H2 y
          have p2 := Post.grow g2 p'
          refine ⟨bs, ρ', F2, _, _, S', x, s2, (ev.mono g').mono g2, r2, PostG.bindC p2 fun ρ3 F3 H3 σ3 e3 S3 g3 s3 ev3 p3 w3 => ⟨w3.trans (wipe_wipe fun _ h => h), ?_⟩⟩
          refine ⟨bs, ρ3, F3, _, e3, S3, s3, ev3, (Post.bindC (R1 := RB) p3).imp fun b H4 ⟨ρ4, F4, b', S4, g4, s4, r4, p4⟩ => ?_⟩
          cases r4
          cases b with
          | false => exact ⟨ρ4, F4, accv, acc, S4, (g2.trans g3).trans g4, s4, ((l'.mono g2).mono g3).mono g4, p4⟩
          | true =>
            simp only [if_true] at p4 ⊢
            refine ⟨bs, ρ4, F4, _, e3, S4, s4, ev3.mono g4, (Post.bindC (R1 := RW g) p4).imp fun yv H5 ⟨ρ5, F5, y', S5, g5, s5, r5, p5⟩ => ?_⟩
            split at p5
            · rename_i hl
              obtain ⟨a, e1, e2, e3, e4⟩ := comp_put s5 ((((l'.mono g2).mono g3).mono g4).mono g5) r5 hl
              exact ⟨a, e1, e2, ρ5, F5, _, _, S5, ((g2.trans g3).trans g4).trans g5, e3, e4, p5⟩
            · exact p5.elim
theorem re_lc {k : Bool} {elt tg iter : Expr} {ifs : List Expr} {scope : Scope} {own : List (Str × Nat)} {mi : M Iter} {t : TM} {mc : M Bool} {me : M W} (hc : X.calm = true) (hN : X.N.Nodup) (ok : BlkOk X.N X.env.scope scope own) (hi : PI X tg iter (rdI g B mi))
    (hg : ∀ (s : Shared) (H : Hp) (C : Addr) (cl : List (Str × Addr)) (fp : List Addr), PG (X.blk s H scope (compEnvC scope cl C X.env) fp) tg (rdTc g NoB (own.map (·.2)) t)) (ht : ∀ (s : Shared) (H : Hp) (C : Addr) (cl : List (Str × Addr)) (fp : List Addr), PTs (X.blk s H scope (compEnvC scope cl C X.env) fp) ifs (rdT g NoB mc))
    (he : ∀ (s : Shared) (H : Hp) (C : Addr) (cl : List (Str × Addr)) (fp : List Addr), PE (X.blk s H scope (compEnvC scope cl C X.env) fp) elt (rd g NoB me)) (hs : ∀ x, foldedSetIterable iter X.env x = pure x := by intro _; rfl) :
    PE X (.ListComp elt [⟨tg, iter, ifs, 0⟩] scope pos) (rd g B (mComp k mi (own.map (·.2)) t mc me)) := (pe_lc hc hN hi ok hg ht he hs).imp rd_lc
theorem rs_setLc {k : Bool} {i : Nat} {y : Str} {py spos : Pos} {elt tg iter : Expr} {ifs : List Expr} {scope : Scope} {own : List (Str × Nat)} {mi : M Iter} {t : TM} {mc : M Bool} {me : M W} (hc : X.calm = true) (hN : X.N.Nodup) (hy : X.N[i]? = some y) (hyl : X.env.scope.names.lookup y = some .local)
    (hsw : swapsWith (.ListComp elt [⟨tg, iter, ifs, 0⟩] scope pos) (some (.Name y py)) spos.line X.env = pure true) (ok : BlkOk X.N X.env.scope scope own) (hi : PI X tg iter (rdI g B mi))
    (hg : ∀ (s : Shared) (H : Hp) (C : Addr) (cl : List (Str × Addr)) (fp : List Addr), PG (X.blk s H scope (compEnvC scope cl C X.env) fp) tg (rdTc g NoB (own.map (·.2)) t)) (ht : ∀ (s : Shared) (H : Hp) (C : Addr) (cl : List (Str × Addr)) (fp : List Addr), PTs (X.blk s H scope (compEnvC scope cl C X.env) fp) ifs (rdT g NoB mc))
    (he : ∀ (s : Shared) (H : Hp) (C : Addr) (cl : List (Str × Addr)) (fp : List Addr), PE (X.blk s H scope (compEnvC scope cl C X.env) fp) elt (rd g NoB me)) (hs : ∀ x, foldedSetIterable iter X.env x = pure x := by intro _; rfl) :
    PS X (.Assign [.Name y py] (.ListComp elt [⟨tg, iter, ifs, 0⟩] scope pos) spos) (rdS g B (sAsg (mComp k mi (own.map (·.2)) t mc me) (tName i))) := (ps_setLc hc hN hy hyl hsw hi ok hg ht he hs).imp fun D σ H h =>
  rd_lc σ H _ (rdG_imp (rd_asg D σ H h) fun v H1 ⟨bs, ρ, F, N, env, S, w, s, e, r, p⟩ => p ρ F H1 _ (Grow.refl _ _) s (e.set i r))

/-! ### while -/
def whileG (c : M Bool) (b : MS) : Nat → MS
  | 0 => fun _ _ _ => .stuck
  | f + 1 => fun bs env S => (c bs env S).so env fun t S1 => if t = true then (b bs env S1).turn fun e S2 => whileG c b f bs e S2 else .nx env S1
theorem rs_while {n : Nat} {c : Expr} {body : List Stmt} {mc : M Bool} {m : MS} (hp : PassesOwn (model X.prog X.w) X.A X.env X.xe) (hc : PT X c (rdT g B mc)) (hb : PSs X body (rdS g B m)) : PS X (.While c body [] pos) (rdS g B (whileG mc m n)) := (ps_while hp hc hb).imp fun D σ H ⟨bs, ρ, F, N, env, S, s, e, p⟩ => by
  refine ⟨fun m' σ' H' => ∃ ρ' F' env' S', Grow ρ F ρ' F' ∧ Sim g bs ρ' F' N S' H' ∧ EnvR g ρ' F' σ' env' ∧ PostS g B bs ρ' F' N D (whileG mc m m' bs env' S'), ⟨n, ρ, F, env, S, Grow.refl _ _, s, e, p⟩, ?_⟩
  rintro m' σ' H' ⟨ρ', F', env', S', g', s', e', p'⟩
  cases m' with
  | zero => exact p'.elim
  | succ f =>
    unfold whileG at p'
    refine ⟨bs, ρ', F', N, env', S', s', e', (PostS.out (R := RB) e' p').imp fun b H1 ⟨ρ1, F1, b', S1, g1, s1, r1, p1⟩ => ?_⟩
    cases r1
    cases b with
    | false => exact p1 ρ1 F1 H1 σ' (Grow.refl _ _) s1 (e'.mono g1)
    | true =>
      simp only [if_true] at p1 ⊢
      refine ⟨fun σ2 H2 => ∃ ρ2 F2 env2 S2, Grow ρ' F' ρ2 F2 ∧ Sim g bs ρ2 F2 N S2 H2 ∧ EnvR g ρ2 F2 σ2 env2 ∧ PostS g B bs ρ2 F2 N D (whileG mc m f bs env2 S2), fun σ2 H2 ⟨ρ2, F2, env2, S2, g2, s2, e2, p2⟩ => ⟨f, Nat.lt_succ_self f, ρ2, F2, env2, S2, g'.trans g2, s2, e2, p2⟩, ?_⟩
      refine ⟨bs, ρ1, F1, N, env', S1, s1, e'.mono g1, ?_⟩
      cases ho : m bs env' S1 with
      | nx e4 S4 => simp only [ho, SO.turn] at p1; exact fun ρ4 F4 H4 σ4 g4 s4 e4' => ⟨ρ4, F4, e4, S4, g1.trans g4, s4, e4', PostS.grow g4 p1⟩
      | ct e4 S4 => simp only [ho, SO.turn] at p1; exact fun ρ4 F4 H4 σ4 g4 s4 e4' => ⟨ρ4, F4, e4, S4, g1.trans g4, s4, e4', PostS.grow g4 p1⟩
      | bk e4 S4 => simp only [ho, SO.turn] at p1; exact p1
      | rt w4 S4 => simp only [ho, SO.turn] at p1; exact p1
      | ex c ws e4 S4 => simp only [ho, SO.turn] at p1; exact p1
      | stuck => simp only [ho, SO.turn] at p1; exact p1
end
end Rf

namespace Rf
open PySem L2
section
variable {X : Cx} {g : Gx} {B : WX} {bs : List Nat} {ρ ρ1 : List Addr} {F F1 N N' : Hp} {σ σ' : L2.St} {vs : List Nat} {e : Expr} {es : List Expr} {pos : Pos}
theorem Out.bind_assoc {α β γ : Type} (o : Out α) (f : α → Store → Out β) (h : β → Store → Out γ) : (o.bind f).bind h = o.bind fun a S => (f a S).bind h := by cases o <;> rfl
theorem Out.bindC_bind {α β γ : Type} (o : Out α) (f : α → Store → Out β) (h : β → Store → Out γ) : (o.bindC f).bind h = o.bindC fun a S => (f a S).bind h := by cases o <;> rfl
theorem PostI.bindC {γ δ ε : Type} {R2 : List Addr → Hp → δ → γ → Prop} {Q : δ → Hp → Prop} {o : Out Iter} {f : Iter → Store → Out ε} {f2 : ε → Store → Out γ}
    (h : Post g B R2 bs ρ F N σ Q ((o.bindC f).bind f2)) {R : It → Hp → Prop}
    (i : ∀ ρ' F' H' J it S', Grow ρ F ρ' F' → Sim g bs ρ' F' N' S' H' → WalkOk g J ρ' F' it → Post g B R2 bs ρ' F' N σ Q ((f it S').bind f2) → R J H') : PostI g NoB bs ρ F N' σ' R o := by
  cases o with
  | ok a S1 => exact fun ρ' F' H' J gr s' wk => i ρ' F' H' J a S1 gr s' wk (Post.grow gr h)
  | ex c ws S1 => exact h.elim
  | stuck => exact h.elim
theorem PostG.bindCC {γ δ ε : Type} {R2 : List Addr → Hp → δ → γ → Prop} {Q : δ → Hp → Prop} {o : Out Env} {f : Env → Store → Out ε} {f2 : ε → Store → Out γ}
    (h : Post g B R2 bs ρ F N σ Q ((o.bindC f).bindC f2)) {Q' : L2.St → Hp → Prop}
    (i : ∀ ρ' F' H' σ2 e2 S', Grow ρ F ρ' F' → Sim g bs ρ' F' N' S' H' → EnvR g ρ' F' σ2 e2 → Post g B R2 bs ρ' F' N σ Q ((f e2 S').bindC f2) → Q' σ2 H') : PostG g NoB bs ρ F N' σ' Q' o := by
  cases o with
  | ok a S1 => exact fun ρ' F' H' σ2 gr s' r => i ρ' F' H' σ2 a S1 gr s' r (Post.grow gr h)
  | ex c ws S1 => exact h.elim
  | stuck => exact h.elim
theorem Post.bindCC {α β γ δ ε : Type} {R1 : List Addr → Hp → β → α → Prop} {R2 : List Addr → Hp → δ → γ → Prop} {σ' : L2.St} {Q : δ → Hp → Prop} {o : Out α} {f : α → Store → Out ε} {f2 : ε → Store → Out γ} {N' : Hp}
    (h : Post g B R2 bs ρ F N σ Q ((o.bindC f).bindC f2)) :
    Post g NoB R1 bs ρ F N' σ' (fun v H1 => ∃ ρ' F' a S', Grow ρ F ρ' F' ∧ Sim g bs ρ' F' N' S' H1 ∧ R1 ρ' F' v a ∧ Post g B R2 bs ρ' F' N σ Q ((f a S').bindC f2)) o := by
  cases o with
  | ok a S1 => exact fun ρ' F' H' v gr s' r => ⟨ρ', F', a, S1, gr, s', r, Post.grow gr h⟩
  | ex c ws S1 => exact h.elim
  | stuck => exact h.elim
def compG2 (it : Iter) (t : TM) (c : M Bool) (mi1 : M Iter) (vs1 : List Nat) (t1 : TM) (c1 : M Bool) (e : M W) : Nat → Nat → List W → M (List W)
  | 0, _, _ => fun _ _ _ => .stuck
  | f + 1, i, acc => fun bs env S => match it.next i S with
    | none => .stuck
    | some none => .ok acc S
    | some (some w) => (t w bs env S).bindC fun env1 S1 => (c bs env1 S1).bindC fun b S2 =>
      if b = true then (mi1 bs env1 S2).bindC fun it1 S3 => (compG it1 t1 c1 e it1.fuel 0 acc bs (wipeE env1 vs1) S3).bindC fun acc' S4 => compG2 it t c mi1 vs1 t1 c1 e f (i + 1) acc' bs env S4
      else compG2 it t c mi1 vs1 t1 c1 e f (i + 1) acc bs env S2
def mComp2 (k : Bool) (mi : M Iter) (vs : List Nat) (t : TM) (c : M Bool) (mi1 : M Iter) (vs1 : List Nat) (t1 : TM) (c1 : M Bool) (e : M W) : M W := fun bs env S => (mi bs env S).bind fun it S1 =>
  (compG2 it t c mi1 vs1 t1 c1 e it.fuel 0 [] bs (wipeE env vs) S1).bind fun ws S2 => .ok (newL k ws S2).1 (newL k ws S2).2
theorem wkGrow {J : It} {it : Iter} (w : WalkOk g J ρ F it) (gr : Grow ρ F ρ1 F1) : WalkOk g J ρ1 F1 it := fun bs ρ' F' N2 S' H' i g2 s => w bs ρ' F' N2 S' H' i (gr.trans g2) s
theorem rd_lc2 {k : Bool} {mi mi1 : M Iter} {t t1 : TM} {mc mc1 : M Bool} {me : M W} {vs vs1 : List Nat} (σ : L2.St) (H : Hp) (Q : VK) (h : rd g B (mComp2 k mi vs t mc mi1 vs1 t1 mc1 me) σ H Q) :
    tLc2 (rdI g B mi) (rdTc g NoB vs t) (rdT g NoB mc) (rdI g NoB mi1) (rdTc g NoB vs1 t1) (rdT g NoB mc1) (rd g NoB me) vs vs1 σ H Q := by
  obtain ⟨bs, ρ, F, N, env, S, s, e, p⟩ := h
  refine ⟨bs, ρ, F, N, env, S, s, e, ?_⟩
  unfold mComp2 at p
  cases hm : mi bs env S with
  | stuck => rw [hm] at p; exact p
  | ex c ws S1 => rw [hm] at p; exact p
  | ok it S1 =>
    rw [hm] at p
    intro ρ1 F1 H1 J g1 s1 wk D hD
    obtain ⟨fD, nD, rD⟩ := s1.freeN hD
    have p1 : Post g B (RW g) bs ρ1 F1 N σ Q ((compG2 it t mc mi1 vs1 t1 mc1 me it.fuel 0 [] bs (wipeE env vs) S1).bind (finL k)) := Post.grow g1 p
    have ev := (e.mono g1).wipe vs
    refine ⟨fun i m H' => ∃ ρ' F' accv acc S', Grow ρ1 F1 ρ' F' ∧ Sim g bs ρ' F' (upd N D (.lst accv)) S' H' ∧ IsAll g.K ρ' F' accv acc ∧ Post g B (RW g) bs ρ' F' N σ Q ((compG2 it t mc mi1 vs1 t1 mc1 me m i acc bs (wipeE env vs) S').bind (finL k)), ⟨it.fuel, ρ1, F1, [], [], S1, Grow.refl _ _, s1.hide hD, .nil, p1⟩, ?_⟩
    rintro i m H' ⟨ρ', F', accv, acc, S', g', s', l', p'⟩
    cases m with
    | zero => exact p'.elim
    | succ f =>
      unfold compG2 at p'
      have w := wk bs ρ' F' _ S' H' i g' s'
      cases hx : it.next i S' with
      | none => rw [hx] at p'; exact p'.elim
      | some o =>
        cases o with
        | none => simp only [hx] at p' w; exact .inl ⟨w, show_ok s' nD l' p'⟩
        | some x =>
          simp only [hx] at p' w
          refine .inr ⟨w.1, fun H2 => ∃ ρ2 F2 accv acc S2, Grow ρ' F' ρ2 F2 ∧ Sim g bs ρ2 F2 (upd N D (.lst accv)) S2 H2 ∧ IsAll g.K ρ2 F2 accv acc ∧ Post g B (RW g) bs ρ2 F2 N σ Q ((compG2 it t mc mi1 vs1 t1 mc1 me f (i + 1) acc bs (wipeE env vs) S2).bind (finL k)), fun H2 ⟨ρ2, F2, accv, acc, S2, g2, s2, l2, p2⟩ => ⟨f, Nat.lt_succ_self f, ρ2, F2, accv, acc, S2, g'.trans g2, s2, l2, p2⟩, fun v H2 y => ?_⟩
          obtain ⟨F2, g2, s2, r2⟩ := w.2 v H2 y
          have p2 := Post.grow g2 p'
          refine ⟨bs, ρ', F2, _, _, S', x, s2, (ev.mono g').mono g2, r2, PostG.bindC p2 fun ρ3 F3 H3 σ3 e3 S3 g3 s3 ev3 p3 w3 => ⟨w3.trans (wipe_wipe fun _ h => h), ?_⟩⟩
          refine ⟨bs, ρ3, F3, _, e3, S3, s3, ev3, (Post.bindC (R1 := RB) p3).imp fun b H4 ⟨ρ4, F4, b', S4, g4, s4, r4, p4⟩ => ?_⟩
          cases r4
          have l4 := ((l'.mono g2).mono g3).mono g4
          have G4 := (g2.trans g3).trans g4
          cases b with
          | false => exact ⟨ρ4, F4, accv, acc, S4, G4, s4, l4, p4⟩
          | true =>
            simp only [if_true] at p4 ⊢
            refine ⟨bs, ρ4, F4, _, e3, S4, s4, ev3.mono g4, PostI.bindC p4 fun ρ5 F5 H5 J1 it1 S5 g5 s5 wk1 p5 => ?_⟩
            have ev5 := ((ev3.mono g4).mono g5).wipe vs1
            rw [Out.bindC_bind] at p5
            refine ⟨fun j k' H6 => ∃ ρ6 F6 accv acc S6, Grow ρ5 F5 ρ6 F6 ∧ Sim g bs ρ6 F6 (upd N D (.lst accv)) S6 H6 ∧ IsAll g.K ρ6 F6 accv acc ∧ Post g B (RW g) bs ρ6 F6 N σ Q ((compG it1 t1 mc1 me k' j acc bs (wipeE e3 vs1) S6).bindC fun acc' S4 => (compG2 it t mc mi1 vs1 t1 mc1 me f (i + 1) acc' bs (wipeE env vs) S4).bind (finL k)), ⟨it1.fuel, ρ5, F5, accv, acc, S5, Grow.refl _ _, s5, l4.mono g5, p5⟩, ?_⟩
            rintro j k' H6 ⟨ρ6, F6, accv6, acc6, S6, g6, s6, l6, p6⟩
            cases k' with
            | zero => exact p6.elim
            | succ f1 =>
              unfold compG at p6
              have w6 := wk1 bs ρ6 F6 _ S6 H6 j g6 s6
              cases hx6 : it1.next j S6 with
              | none => rw [hx6] at p6; exact p6.elim
              | some o6 =>
                cases o6 with
                | none =>
                  simp only [hx6, Out.bindC_ok] at p6 w6
                  exact .inl ⟨w6, ρ6, F6, accv6, acc6, S6, (G4.trans g5).trans g6, s6, l6, p6⟩
                | some x6 =>
                  simp only [hx6] at p6 w6
                  refine .inr ⟨w6.1, fun H7 => ∃ ρ7 F7 accv acc S7, Grow ρ6 F6 ρ7 F7 ∧ Sim g bs ρ7 F7 (upd N D (.lst accv)) S7 H7 ∧ IsAll g.K ρ7 F7 accv acc ∧ Post g B (RW g) bs ρ7 F7 N σ Q ((compG it1 t1 mc1 me f1 (j + 1) acc bs (wipeE e3 vs1) S7).bindC fun acc' S4 => (compG2 it t mc mi1 vs1 t1 mc1 me f (i + 1) acc' bs (wipeE env vs) S4).bind (finL k)), fun H7 ⟨ρ7, F7, accv, acc, S7, g7, s7, l7, p7⟩ => ⟨f1, Nat.lt_succ_self f1, ρ7, F7, accv, acc, S7, g6.trans g7, s7, l7, p7⟩, fun v7 H7 y7 => ?_⟩
                  obtain ⟨F7, g7, s7, r7⟩ := w6.2 v7 H7 y7
                  have p7 := Post.grow g7 p6
                  refine ⟨bs, ρ6, F7, _, _, S6, x6, s7, (ev5.mono g6).mono g7, r7, PostG.bindCC p7 fun ρ8 F8 H8 σ8 e8 S8 g8 s8 ev8 p8 w8 => ⟨w8.trans (wipe_wipe fun _ h => h), ?_⟩⟩
                  refine ⟨bs, ρ8, F8, _, e8, S8, s8, ev8, (Post.bindCC (R1 := RB) p8).imp fun b H9 ⟨ρ9, F9, b', S9, g9, s9, r9, p9⟩ => ?_⟩
                  cases r9
                  have l9 := ((l6.mono g7).mono g8).mono g9
                  have G9 := (g7.trans g8).trans g9
                  cases b with
                  | false => exact ⟨ρ9, F9, accv6, acc6, S9, G9, s9, l9, p9⟩
                  | true =>
                    simp only [if_true] at p9 ⊢
                    refine ⟨bs, ρ9, F9, _, e8, S9, s9, ev8.mono g9, (Post.bindCC (R1 := RW g) p9).imp fun yv HA ⟨ρA, FA, yA, SA, gA, sA, rA, pA⟩ => ?_⟩
                    split at pA
                    · rename_i hl
                      obtain ⟨a, e1, e2, e3, e4⟩ := comp_put sA (l9.mono gA) rA hl
                      exact ⟨a, e1, e2, ρA, FA, _, _, SA, G9.trans gA, e3, e4, pA⟩
                    · exact pA.elim
theorem re_lc2 {k : Bool} {elt tg iter tg1 iter1 : Expr} {ifs ifs1 : List Expr} {scope : Scope} {own : List (Str × Nat)} {vs1 : List Nat} {mi mi1 : M Iter} {t t1 : TM} {mc mc1 : M Bool} {me : M W} (hc : X.calm = true) (hN : X.N.Nodup) (ok : BlkOk X.N X.env.scope scope own) (hi : PI X tg iter (rdI g B mi))
    (hg : ∀ (s : Shared) (H : Hp) (C : Addr) (cl : List (Str × Addr)) (fp : List Addr), PG (X.blk s H scope (compEnvC scope cl C X.env) fp) tg (rdTc g NoB (own.map (·.2)) t)) (ht : ∀ (s : Shared) (H : Hp) (C : Addr) (cl : List (Str × Addr)) (fp : List Addr), PTs (X.blk s H scope (compEnvC scope cl C X.env) fp) ifs (rdT g NoB mc))
    (hi1 : ∀ (s : Shared) (H : Hp) (C : Addr) (cl : List (Str × Addr)) (fp : List Addr), PI (X.blk s H scope (compEnvC scope cl C X.env) fp) tg1 iter1 (rdI g NoB mi1))
    (hg1 : ∀ (s : Shared) (H : Hp) (C : Addr) (cl : List (Str × Addr)) (fp : List Addr), PG (X.blk s H scope (compEnvC scope cl C X.env) fp) tg1 (rdTc g NoB vs1 t1)) (ht1 : ∀ (s : Shared) (H : Hp) (C : Addr) (cl : List (Str × Addr)) (fp : List Addr), PTs (X.blk s H scope (compEnvC scope cl C X.env) fp) ifs1 (rdT g NoB mc1))
    (he : ∀ (s : Shared) (H : Hp) (C : Addr) (cl : List (Str × Addr)) (fp : List Addr), PE (X.blk s H scope (compEnvC scope cl C X.env) fp) elt (rd g NoB me)) (hv : ∀ i ∈ vs1, i ∈ own.map (·.2) := by decide) (hs : ∀ x, foldedSetIterable iter X.env x = pure x := by intro _; rfl) (hs1 : ∀ env x, foldedSetIterable iter1 env x = pure x := by intro _ _; rfl) :
    PE X (.ListComp elt [⟨tg, iter, ifs, 0⟩, ⟨tg1, iter1, ifs1, 0⟩] scope pos) (rd g B (mComp2 k mi (own.map (·.2)) t mc mi1 vs1 t1 mc1 me)) := (pe_lc2 hc hN hi ok hv hg ht hi1 hg1 ht1 he hs hs1).imp rd_lc2
end
end Rf

namespace Rf
open PySem L2

/-! ### slices -/
abbrev OpSl := W → Option Int → Option Int → Store → Option (W × Store)
def rdO (g : Gx) (B : WX) (m : M (Option Int)) : TO := rdG g B (fun _ _ a b => a = b) m
def mNoPart : M (Option Int) := fun _ _ S => .ok none S
def mPart (m : M W) : M (Option Int) := fun bs env S => (m bs env S).bind fun w S1 => match w with
  | .dat (.int i) => .ok (some i) S1
  | _ => .stuck
def cutW {α : Type} (xs : List α) (lo hi : Option Int) : List α := (xs.drop (HT.sIx xs.length 0 lo)).take (HT.sIx xs.length xs.length hi - HT.sIx xs.length 0 lo)
def slF (k : Bool) : OpSl := fun w lo hi S => match tupOf w with
  | some ws => if HT.sIx ws.length 0 lo = 0 ∧ HT.sIx ws.length ws.length hi = ws.length then some (w, S) else some (mkTup (cutW ws lo hi), S)
  | none => match lstOf S w with
    | some ws => some (newL k (cutW ws lo hi) S)
    | none => match w with
      | .dat (.str z) => if z.length ≤ 100000 then some (.str (cutS z lo hi), S) else none
      | _ => none
def mSl (f : OpSl) (ma : M W) (ml mh : M (Option Int)) : M W := fun bs env S => (ma bs env S).bind fun w S1 => (ml bs env S1).bind fun l S2 => (mh bs env S2).bind fun h S3 => match f w l h S3 with
  | some (r, S4) => .ok r S4
  | none => .stuck
section
variable {X : Cx} {g : Gx} {B : WX} {bs : List Nat} {ρ ρ1 : List Addr} {F F1 N : Hp} {σ : L2.St} {a b c e : Expr} {es : List Expr} {ma mb mc : M W} {ms : M (List W)} {pos p2 : Pos} {lo hi : Option Expr} {ml mh : M (Option Int)}
theorem ro_noPart : PO X none (rdO g B mNoPart) := ⟨fun pins s σ H Q I ⟨bs, ρ, F, N, env, S, s1, e, p⟩ => po_none.run pins s σ H Q I (p ρ F H none (Grow.refl _ _) s1 rfl)⟩
theorem ro_part (h : PE X e (rd g B ma)) : PO X (some e) (rdO g B (mPart ma)) := ⟨fun pins s σ H Q I ⟨bs, ρ, F, N, env, S, s1, e, p⟩ => (po_some h).run pins s σ H Q I ⟨bs, ρ, F, N, env, S, s1, e, (Post.bind (R1 := RW g) p).imp fun x H1 ⟨ρ1, F1, wx, S1, g1, s1, r1, p1⟩ => by
  split at p1
  · rw [is_int r1]; exact ⟨_, rfl, p1 ρ1 F1 H1 _ (Grow.refl _ _) s1 rfl⟩
  · exact p1.elim⟩⟩
theorem IsAll.cut {K : PySem.W.Frag} {ws : List W} {vs : List V} (h : IsAll K ρ F vs ws) (lo hi : Option Int) : IsAll K ρ F (cutV vs lo hi) (cutW ws lo hi) := by
  unfold cutV cutW
  rw [h.len]
  exact (h.drop _).take _
def rdSl (g : Gx) (f : OpSl) : V → Option Int → Option Int → Hp → VK → Prop := fun x lo hi H Q => ∃ bs ρ F N S wx, Sim g bs ρ F N S H ∧ Is g.K ρ F x wx ∧ PostV g bs ρ F N Q (f wx lo hi S)
theorem slr (hK : g.K = X.K) {k : Bool} : SlR X (rdSl g (slF k)) := by
  intro pins s σ H x v vl vu lo hi sl Q I rx hs pl pu ⟨bs, ρ, F, N, S, wx, s1, r, p⟩
  unfold slF at p
  split at p
  · rename_i ws hw
    obtain ⟨a, vs, rfl, q, l⟩ := tup_of r hw
    rw [hK] at q
    refine sl_tupA pins s σ H _ v vl vu lo hi sl Q I rx hs pl pu ⟨a, vs, rfl, Same.sqT s1.ex q, ?_⟩
    rw [l.len]
    split at p
    · rename_i hz
      exact ⟨fun _ => p ρ F H _ (Grow.refl _ _) s1 r, fun z => absurd hz z⟩
    · rename_i hz
      exact ⟨fun z => absurd z hz, fun _ q hq => newT_ok s1 hq (l.cut lo hi) p⟩
  · split at p
    · rename_i ws hw
      obtain ⟨a, vs, rfl, q, l⟩ := lst_of s1 r hw
      rw [hK] at q
      exact sl_list pins s σ H _ v vl vu lo hi sl Q I rx hs pl pu ⟨a, vs, rfl, q, fun q hq => new_ok s1 hq (l.cut lo hi) p⟩
    · split at p
      · rename_i z _ _
        split at p
        · rename_i hz
          cases r with
          | dat r => cases r; exact sl_str pins s σ H _ v vl vu lo hi sl Q I rx hs pl pu ⟨z, rfl, line5 hz, p ρ F H _ (Grow.refl _ _) s1 (.dat (.str _))⟩
        · exact p.elim
      · exact p.elim
theorem re_sl {f : OpSl} (hr : SlR X (rdSl g f)) (he : PE X e (rd g B ma)) (hl : PO X lo (rdO g B ml)) (hu : PO X hi (rdO g B mh)) : PE X (.Subscript e (.Slice lo hi none p2) pos) (rd g B (mSl f ma ml mh)) :=
  (pe_slice hr he hl hu).imp fun σ H Q ⟨bs, ρ, F, N, env, S, s, e, p⟩ => by
    refine ⟨bs, ρ, F, N, env, S, s, e, (Post.bind (R1 := RW g) p).imp fun x H1 ⟨ρ1, F1, wx, S1, g1, s1, r1, p1⟩ => ?_⟩
    refine ⟨bs, ρ1, F1, N, env, S1, s1, e.mono g1, (Post.bind (R1 := fun _ _ a b => a = b) p1).imp fun l H2 ⟨ρ2, F2, l', S2, g2, s2, r2, p2⟩ => ?_⟩
    cases r2
    refine ⟨bs, ρ2, F2, N, env, S2, s2, (e.mono g1).mono g2, (Post.bind (R1 := fun _ _ a b => a = b) p2).imp fun u H3 ⟨ρ3, F3, u', S3, g3, s3, r3, p3⟩ => ?_⟩
    cases r3
    exact ⟨bs, ρ3, F3, N, S3, wx, s3, (r1.mono g2).mono g3, post_op p3⟩

/-! ### o[i] = .. -/
abbrev OpSet := List Nat → W → W → W → Store → Option Store
def PostU (g : Gx) (bs : List Nat) (ρ : List Addr) (F N : Hp) (Q : Hp → Prop) : Option Store → Prop
  | some S' => ∀ ρ' F' H', Grow ρ F ρ' F' → Sim g bs ρ' F' N S' H' → Q H'
  | none => False
def rdSet (g : Gx) (f : OpSet) : TSet := fun o i v H Q => ∃ bs ρ F N S wo wi wv, Sim g bs ρ F N S H ∧ Is g.K ρ F o wo ∧ Is g.K ρ F i wi ∧ Is g.K ρ F v wv ∧ PostU g bs ρ F N Q (f bs wo wi wv S)
/-- a write keeps what lies below popping frames -/
def mayW (bs : List Nat) (n : Nat) (w : W) : Bool := bs.all fun b => decide (b ≤ n) || w.und b
def setF : OpSet := fun bs o i v S => match o with
  | .loc n => match S[n]? with
    | some (.lst ws) => match i with
      | .dat (.int k) => match ixN ws.length k with
        | some j => if mayW bs n v then some (S.set n (.lst (ws.set j v))) else none
        | none => none
      | _ => none
    | some (.dic ws) => match i with
      | .dat d => match dkey d with
        | some k => if mayW bs n v ∧ ws.length < 100000 ∧ (ws.all fun p => (dkey p.1).any fun k' => kindK k' == kindK k) then some (S.set n (.dic (putW ws k v))) else none
        | none => none
      | _ => none
    | _ => none
  | _ => none
theorem undAll_iff {b : Nat} : ∀ {ws : List W}, W.undAll b ws = true ↔ ∀ w ∈ ws, w.und b = true
  | [] => by simp [W.undAll]
  | w :: ws => by simp [W.undAll, undAll_iff (ws := ws)]

theorem IsKV.len {K : PySem.W.Frag} : ∀ {ws : List (PyData × W)} {vs : List (PyData × V)}, IsKV K ρ F vs ws → vs.length = ws.length
  | _, _, .nil => rfl
  | _, _, .cons _ b => by simp [IsKV.len b]
theorem IsKV.any {K : PySem.W.Frag} (f : PyData → Bool) : ∀ {ws : List (PyData × W)} {vs : List (PyData × V)}, IsKV K ρ F vs ws → (vs.any fun p => f p.1) = ws.any fun p => f p.1
  | _, _, .nil => rfl
  | _, _, .cons _ b => by simp [IsKV.any f b]
theorem IsKV.put {K : PySem.W.Frag} (f : PyData → Prop) [DecidablePred f] {v : V} {w : W} (r : Is K ρ F v w) : ∀ {ws : List (PyData × W)} {vs : List (PyData × V)}, IsKV K ρ F vs ws → IsKV K ρ F (vs.map fun p => if f p.1 then (p.1, v) else p) (ws.map fun p => if f p.1 then (p.1, w) else p)
  | _, _, .nil => .nil
  | (k, _) :: _, _, .cons a b => by
    rw [List.map_cons, List.map_cons]
    by_cases h : f k
    · simp only [h, if_true]; exact .cons r (IsKV.put f r b)
    · simp only [h, if_false]; exact .cons a (IsKV.put f r b)
theorem IsKV.snoc {K : PySem.W.Frag} {k : PyData} {v : V} {w : W} (r : Is K ρ F v w) : ∀ {ws : List (PyData × W)} {vs : List (PyData × V)}, IsKV K ρ F vs ws → IsKV K ρ F (vs ++ [(k, v)]) (ws ++ [(k, w)])
  | _, _, .nil => .cons r .nil
  | _, _, .cons a b => .cons a (IsKV.snoc r b)
theorem put_kv {K : PySem.W.Frag} {κ : Type} [DecidableEq κ] (φ : κ → PyData) (ψ : κ → DKey) (h1 : ∀ k, dkey (φ k) = some (ψ k)) (h2 : ∀ k, (ψ k).d = φ k) (hi : ∀ a b, ψ a = ψ b → a = b) {kvs : List (κ × V)} {ws : List (PyData × W)} {k : κ} {v : V} {w : W}
    (h : IsKV K ρ F (kvs.map fun p => (φ p.1, p.2)) ws) (r : Is K ρ F v w) : IsKV K ρ F ((putK kvs k v).map fun p => (φ p.1, p.2)) (putW ws (ψ k) w) := by
  have e : ∀ x : κ, decide (dkey (φ x) = some (ψ k)) = decide (x = k) := fun x => by
    rw [h1]
    by_cases z : x = k
    · simp [z]
    · simp [z]; exact fun q => z (hi _ _ q)
  have ea := h.any fun d => decide (dkey d = some (ψ k))
  rw [List.any_map] at ea
  have ea' : (kvs.any fun kv => decide (kv.1 = k)) = ws.any fun p => decide (dkey p.1 = some (ψ k)) := by
    rw [← ea]
    congr 1
    funext p
    exact (e p.1).symm
  unfold putK putW
  rw [ea']
  split
  · have := h.put (fun d => dkey d = some (ψ k)) r
    rw [List.map_map] at this ⊢
    refine cast (congrArg (fun l => IsKV K ρ F l _) ?_) this
    congr 1
    funext p
    have e1 := e p.1
    by_cases z : p.1 = k
    · simp only [z, decide_true, decide_eq_true_eq] at e1
      simp [z, e1]
    · simp only [z, decide_false, decide_eq_false_iff_not] at e1
      simp [z, e1]
  · rw [List.map_append, h2]
    exact h.snoc r
theorem mayW_le {n : Nat} {w : W} (h : mayW bs n w = true) {b : Nat} (hb : b ∈ bs) (hn : n < b) : w.und b = true := by
  have := List.all_eq_true.mp h b hb
  simp only [Bool.or_eq_true, decide_eq_true_eq] at this
  rcases this with z | z
  · omega
  · exact z
theorem undAll_set {b : Nat} {ws : List W} {j : Nat} {w : W} (h : W.undAll b ws = true) (r : w.und b = true) : W.undAll b (ws.set j w) = true := by
  rw [undAll_iff] at h ⊢
  intro x hx
  rcases List.mem_or_eq_of_mem_set hx with z | z
  · exact h x z
  · rw [z]; exact r
theorem und_put {b : Nat} {ws : List (PyData × W)} {k : DKey} {w : W} (h : (ws.all fun p => p.2.und b) = true) (r : w.und b = true) : ((putW ws k w).all fun p => p.2.und b) = true := by
  rw [List.all_eq_true] at h ⊢
  unfold putW
  split
  · intro x hx
    obtain ⟨p, hp, rfl⟩ := List.mem_map.mp hx
    split
    · exact r
    · exact h p hp
  · intro x hx
    rcases List.mem_append.mp hx with z | z
    · exact h x z
    · simp at z; subst z; exact r
/-- a dict that is a cell -/
inductive DicE (H : Hp) (a : Addr) : Nat → List (PyData × V) → Prop
  | k {kvs : List (Key × V)} : H a = some (.dK kvs) → DicE H a 0 (kvs.map fun p => (kD p.1, p.2))
  | t {kvs : List (List Key × V)} : H a = some (.dT kvs) → DicE H a 1 (kvs.map fun p => (.tuple (p.1.map kD), p.2))
theorem DicE.h {H : Hp} {a : Addr} {n : Nat} {vs : List (PyData × V)} (d : DicE H a n vs) : DicH H a n vs := by
  cases d with
  | k e => exact .k (.inl e)
  | t e => exact .t (.inl e)
/-- a dict cell in the heap, of the kind of a key -/
theorem dic_kind {pins : List (Addr × Obj)} {sh : Shared} {H : Hp} {S : Store} {n : Nat} {a : Addr} {ws : List (PyData × W)} {k : DKey} (I : Inv X pins σ H sh) (s : Sim g bs ρ F N S H) (hn : ρ[n]? = some a) (hS : S[n]? = some (.dic ws)) (hk : (ws.all fun p => (dkey p.1).any fun k' => kindK k' == kindK k) = true) :
    ∃ H', Inv X pins σ H' sh ∧ Sim g bs ρ F N S H' ∧ ∃ vs, DicE H' a (kindK k) vs ∧ IsKV g.K ρ F vs ws := by
  have ub : ∀ b ∈ bs, n < b → (Cell.dic ws).und b = true := fun b hb hlt => (s.bot b hb).2 n _ hlt hS
  have hset : S.set n (.dic ws) = S := by
    have hl := (List.getElem?_eq_some_iff.mp hS)
    apply List.ext_getElem? ; intro i
    by_cases z : n = i
    · subst z; rw [List.getElem?_set_self hl.1, hS]
    · rw [List.getElem?_set_ne z]
  rcases s.cell n _ _ hS hn with ⟨kvs, e, q⟩ | ⟨kvs, e, q⟩
  · cases k with
    | one k => exact ⟨H, I, s, _, .k e, q⟩
    | tup ks =>
      cases ws with
      | nil =>
        have e0 : kvs = [] := by
          have := q.len; simp at this; exact this
        subst e0
        refine ⟨_, inv_kind I e, ?_, [], DicE.t (kvs := []) upd_same, .nil⟩
        have := s.write (o := .dT []) (c := .dic []) hS rfl hn (.inr ⟨[], upd_same, .nil⟩) ub
        rwa [hset] at this
      | cons p ws =>
        exfalso
        obtain ⟨y, kvs', rfl⟩ : ∃ y l, kvs = y :: l := by
          cases kvs with
          | nil => cases q
          | cons y l => exact ⟨y, l, rfl⟩
        cases q
        rw [List.all_cons, Bool.and_eq_true] at hk
        have z : dkey (kD y.1) = some (.one y.1) := dkey_d (.one y.1)
        have := hk.1
        simp only [z, Option.any_some, kindK] at this
        simp at this
  · cases k with
    | tup k => exact ⟨H, I, s, _, .t e, q⟩
    | one ks =>
      cases ws with
      | nil =>
        have e0 : kvs = [] := by
          have := q.len; simp at this; exact this
        subst e0
        refine ⟨_, inv_kind' I e, ?_, [], DicE.k (kvs := []) upd_same, .nil⟩
        have := s.write (o := .dK []) (c := .dic []) hS rfl hn (.inl ⟨[], upd_same, .nil⟩) ub
        rwa [hset] at this
      | cons p ws =>
        exfalso
        obtain ⟨y, kvs', rfl⟩ : ∃ y l, kvs = y :: l := by
          cases kvs with
          | nil => cases q
          | cons y l => exact ⟨y, l, rfl⟩
        cases q
        rw [List.all_cons, Bool.and_eq_true] at hk
        have z : dkey (.tuple (y.1.map kD)) = some (.tup y.1) := dkey_d (.tup y.1)
        have := hk.1
        simp only [z, Option.any_some, kindK] at this
        simp at this
theorem set_ok (hu : X.A.units + 1 < cLine) : PSet X (rdSet g setF) := by
  intro pins sh σ H o i v ov iv u Q I ro ri rv ⟨bs, ρ, F, N, S, wo, wi, wv, s, qo, qi, qv, p⟩
  unfold setF at p
  split at p
  · rename_i n
    cases qo with
    | loc hn =>
      rename_i a
      split at p
      · rename_i ws hS
        split at p
        · rename_i k
          rw [is_int qi] at ri
          split at p
          · rename_i j hj
            split at p
            · rename_i hm
              obtain ⟨vs, e, l⟩ := s.cell n _ _ hS hn
              refine set_list pins sh σ H _ _ v ov iv u Q I ro ri rv ⟨a, vs, k, j, rfl, rfl, e, by rw [l.len]; exact hj, ?_⟩
              refine p ρ F _ (Grow.refl _ _) (s.write hS rfl hn ⟨_, upd_same, IsAll.set qv _ l⟩ fun b hb hlt => undAll_set ((s.bot b hb).2 n _ hlt hS) (mayW_le hm hb hlt))
            · exact p.elim
          · exact p.elim
        · exact p.elim
      · rename_i ws hS
        split at p
        · rename_i d
          split at p
          · rename_i k hk
            split at p
            · rename_i hm
              obtain ⟨hm, hz, hall⟩ := hm
              have hd := dkey_eq hk
              subst hd
              obtain ⟨H1, I1, s1, vs, hd, l⟩ := dic_kind I s hn hS hall
              have hz' : ∀ n : Nat, n = ws.length → n < sizeLine := fun n e => by rw [e]; exact Nat.lt_of_lt_of_le hz (by decide)
              have hl := l.len
              have ub : ∀ b ∈ bs, n < b → (Cell.dic (putW ws k wv)).und b = true := fun b hb hlt => und_put ((s1.bot b hb).2 n _ hlt hS) (mayW_le hm hb hlt)
              have r : Rp g.K F i k.d := by
                cases qi with
                | dat r => exact r
              cases k with
              | one k =>
                cases hd with
                | @k kvs e =>
                  have ei := key_one r
                  subst ei
                  exact set_dict hu pins sh σ H1 _ _ v ov iv u Q I1 ro ri rv ⟨a, _, rfl, DPut.k e (hz' _ (by simpa using hl)), p ρ F _ (Grow.refl _ _) (s1.write hS rfl hn (.inl ⟨_, upd_same, put_kv kD .one (fun k => dkey_d (.one k)) (fun _ => rfl) (fun a b h => by injection h) l qv⟩) ub)⟩
              | tup ks =>
                cases hd with
                | @t kvs e =>
                  obtain ⟨b, rfl, hb⟩ := key_tup s1.ex r
                  exact set_dict hu pins sh σ H1 _ _ v ov iv u Q I1 ro ri rv ⟨a, _, rfl, DPut.t e hb (hz' _ (by simpa using hl)), p ρ F _ (Grow.refl _ _) (s1.write hS rfl hn (.inr ⟨_, upd_same, put_kv (fun k : List Key => .tuple (k.map kD)) .tup (fun k => dkey_d (.tup k)) (fun _ => rfl) (fun a b h => by injection h) l qv⟩) ub)⟩
            · exact p.elim
          · exact p.elim
        · exact p.elim
      · exact p.elim
  · exact p.elim
/-- as a target -/
def tSub (mo mi : M W) (f : OpSet) : TM := fun w bs env S => (mo bs env S).bind fun o S1 => (mi bs env S1).bind fun i S2 => match f bs o i w S2 with
  | some S3 => .ok env S3
  | none => .stuck
theorem PostG.bind {α β : Type} {R : List Addr → Hp → β → α → Prop} {o : Out α} {f : α → Store → Out Env} {Q : L2.St → Hp → Prop} (h : PostG g B bs ρ F N σ Q (o.bind f)) :
    Post g B R bs ρ F N σ (fun v H1 => ∃ ρ' F' a S', Grow ρ F ρ' F' ∧ Sim g bs ρ' F' N S' H1 ∧ R ρ' F' v a ∧ PostG g B bs ρ' F' N σ Q (f a S')) o := by
  cases o with
  | ok a S1 => exact fun ρ' F' H' v gr s' r => ⟨ρ', F', a, S1, gr, s', r, PostG.grow gr h⟩
  | ex c ws S1 => exact h
  | stuck => exact h
theorem rg_sub {f : OpSet} (ho : PE X a (rd g B ma)) (hi : PE X b (rd g B mb)) (hs : PSet X (rdSet g f))
    (hA : ∀ v, assign (.Subscript a b pos) X.env v = (do
      let ov ← holding [v] (eval a X.env)
      let iv ← holding [v, ov] (eval b X.env)
      standAt pos
      holding [v, ov, iv] (setItem ov iv v)
      release [v, ov, iv] []) := by intro _; rfl) : PG X (.Subscript a b pos) (rdTg g B (tSub ma mb f)) := (pg_sub ho hi hs hA).imp fun v σ H Q ⟨bs, ρ, F, N, env, S, w, s, e, r, p⟩ => by
  refine ⟨bs, ρ, F, N, env, S, s, e, (PostG.bind (R := RW g) p).imp fun x H1 ⟨ρ1, F1, wx, S1, g1, s1, r1, p1⟩ => ?_⟩
  refine ⟨bs, ρ1, F1, N, env, S1, s1, e.mono g1, (PostG.bind (R := RW g) p1).imp fun y H2 ⟨ρ2, F2, wy, S2, g2, s2, r2, p2⟩ => ?_⟩
  refine ⟨bs, ρ2, F2, N, S2, wx, wy, w, s2, r1.mono g2, r2, (r.mono g1).mono g2, ?_⟩
  cases hq : f bs wx wy w S2 with
  | none => rw [hq] at p2; exact p2
  | some S3 => rw [hq] at p2; exact fun ρ' F' H' gr s' => p2 ρ' F' H' σ gr s' (((e.mono g1).mono g2).mono gr)
end
end Rf

namespace Rf
open PySem L2

/-! ### methods -/
inductive MTy where
  | lst
  | dic
  | str
def MTy.s : MTy → String
  | .lst => "list"
  | .dic => "dict"
  | .str => "str"
def wTy (T : MTy) (w : W) (S : Store) : Bool := match T with
  | .lst => (lstOf S w).isSome
  | .dic => (dicOf S w).isSome
  | .str => match w with
    | .dat (.str _) => true
    | _ => false
abbrev OpM := List Nat → W → List W → Store → Option (W × Store)
def mMt (T : MTy) (f : OpM) (mo : M W) (ms : M (List W)) : M W := fun bs env S => (mo bs env S).bind fun w S1 => if wTy T w S1 = true then (ms bs env S1).bind fun ws S2 => match f bs w ws S2 with
  | some (r, S3) => .ok r S3
  | none => .stuck
  else .stuck
def rdMt (g : Gx) (f : OpM) : V → List V → Hp → VK → Prop := fun x xs H Q => ∃ bs ρ F N S wx ws, Sim g bs ρ F N S H ∧ Is g.K ρ F x wx ∧ IsAll g.K ρ F xs ws ∧ PostV g bs ρ F N Q (f bs wx ws S)
section
variable {X : Cx} {g : Gx} {B : WX} {bs : List Nat} {ρ ρ1 : List Addr} {F F1 N : Hp} {S : Store} {σ : L2.St} {a b c e o : Expr} {es : List Expr} {ma mb mc mo : M W} {ms : M (List W)} {pos apos cpos : Pos} {name : Str} {id : String} {f : OpM}
/-- a receiver's type; a dict may be locked -/
def tyD (K : PySem.W.Frag) (T : String) (x : V) (H : Hp) : Prop := tyV K T x H ∨ (T = "dict" ∧ ∃ p, x = .ref p ∧ ((∃ kvs, Rd H p (.dK kvs)) ∨ ∃ kvs, Rd H p (.dT kvs)))
theorem tyD_is {pins : List (Addr × Obj)} {H : Hp} {s : Shared} {T : String} {x : V} {v : Value} (I : Inv X pins σ H s) (r : RelV x v) (ty : tyD X.K T x H) :
    s.TypeIs v T ∧ ∀ a, v = .ref a → ∃ ob, s.heap.get? a = some ob ∧ ob.dict = none := by
  rcases ty with ty | ⟨rfl, p, rfl, ty⟩
  · exact tyV_is I r ty
  · cases r
    have z : ∃ o, s.heap.get? p = some o ∧ o.ExactDict := by
      rcases ty with ⟨kvs, hk⟩ | ⟨kvs, hk⟩
      · obtain ⟨_, _, _, _, o, _, _, e, ex, _⟩ := (show ObjOk X.prog X.w H s.heap p (.dK kvs) from hk.ok I.hok)
        exact ⟨o, e, ex⟩
      · obtain ⟨_, _, _, _, o, _, _, e, ex, _⟩ := (show ObjOk X.prog X.w H s.heap p (.dT kvs) from hk.ok I.hok)
        exact ⟨o, e, ex⟩
    obtain ⟨o, e, ex⟩ := z
    refine ⟨⟨o, e, ex.1⟩, fun a e2 => ?_⟩
    cases e2
    exact ⟨o, e, ex.2.1⟩
def tBD (K : PySem.W.Frag) (T : String) (r : V → List V → Hp → VK → Prop) (to : TE) (t : TA) : TE := fun σ H Q => to σ H fun x H1 => tyD K T x H1 ∧ t σ H1 fun xs H2 => r x xs H2 Q
def tBD0 (K : PySem.W.Frag) (T : String) (r : V → List V → Hp → VK → Prop) (to : TE) : TE := fun σ H Q => to σ H fun x H1 => tyD K T x H1 ∧ r x [] H1 Q
theorem pe_bmD0 {T : String} {to : TE} {r : V → List V → Hp → VK → Prop} (pa : PlainAttrs T) (slot : Slot T name id) (hty : typeOf (.builtin id) = pure (.type "method_descriptor")) (hm : MtR X id r) (ho : PE X o to)
    (hbase : attributeBase o name X.env (eval o X.env) = eval o X.env := by rfl) (hline : (apos.endLine == cpos.line) = true := by rfl) : PE X (.Call (.Attribute o name apos) [] [] cpos) (tBD0 X.K T r to) := by
  refine ⟨fun pins s σ H Q I h => ?_⟩
  refine wpAny_Call_method0_late hbase hline (thn (ho.run pins s σ H _ I h) fun v s1 ⟨x, H1, I1, r1, ty, q1⟩ => ?_)
  obtain ⟨h1, h2⟩ := tyD_is I1 r1 ty
  exact ⟨T, id, pa, slot, hty, h1, h2, Calls.callWith_builtin rfl (PySem.evalArgs_none (hm pins s1 σ H1 x [] v [] Q I1 r1 .nil q1))⟩
theorem pe_bmD {T : String} {to : TE} {t : TA} {r : V → List V → Hp → VK → Prop} (pa : PlainAttrs T) (slot : Slot T name id) (hty : typeOf (.builtin id) = pure (.type "method_descriptor")) (hm : MtR X id r) (ho : PE X o to) (ha : PA X (e :: es) t)
    (hbase : attributeBase o name X.env (eval o X.env) = eval o X.env := by rfl)
    (hfew : ((backTo cpos (starEach (e :: es) X.env)).all (fun x => !x.1) && (backToKw cpos (keywordEach [] X.env)).all (fun x => x.1.isSome)
      && decide ((e :: es).length + ([] : List Keyword).length + (if ([] : List Keyword).isEmpty then 0 else 1) < 30)) = true := by rfl)
    (hline : (apos.endLine == cpos.line) = true := by rfl) (hs : starEach (e :: es) X.env = (false, eval e X.env) :: starEach es X.env := by rfl) (hplain : (backTo cpos (starEach es X.env)).any (·.1) = false := by rfl) :
    PE X (.Call (.Attribute o name apos) (e :: es) [] cpos) (tBD X.K T r to t) := by
  refine ⟨fun pins s σ H Q I h => ?_⟩
  refine wpAny_Call_method_late hbase hfew hline rfl (thn (ho.run pins s σ H _ I h) fun v s1 ⟨x, H1, I1, r1, ty, q1⟩ => ?_)
  obtain ⟨h1, h2⟩ := tyD_is I1 r1 ty
  refine ⟨T, id, pa, slot, hty, h1, h2, ?_⟩
  have hA := ha.run cpos pins s1 σ H1 _ I1 q1
  rw [hs] at hA ⊢
  refine Calls.callWith_builtin (by show (false || (backTo cpos (starEach es X.env)).any (·.1)) = false; rw [hplain] <;> rfl) (Calls.evalArgs_plain ?_)
  exact thn hA fun us s2 ⟨vs, H2, I2, r2, q2⟩ => hm pins s2 σ H2 x vs v us Q I2 r1 r2 q2
theorem ty_ok {T : MTy} {w : W} {v : V} {H : Hp} (s : Sim g bs ρ F N S H) (r : Is g.K ρ F v w) (h : wTy T w S = true) : tyD g.K T.s v H := by
  cases T with
  | lst =>
    simp only [wTy, Option.isSome_iff_exists] at h
    obtain ⟨ws, h⟩ := h
    obtain ⟨a, vs, rfl, q, _⟩ := lst_of s r h
    exact .inl (.inl ⟨rfl, vs, q⟩)
  | dic =>
    simp only [wTy, Option.isSome_iff_exists] at h
    obtain ⟨ws, h⟩ := h
    obtain ⟨a, n, vs, rfl, q, _⟩ := dic_of s r h
    cases q with
    | k e => exact .inr ⟨rfl, _, rfl, .inl ⟨_, e⟩⟩
    | t e => exact .inr ⟨rfl, _, rfl, .inr ⟨_, e⟩⟩
  | str =>
    simp only [wTy] at h
    split at h
    · cases r with
      | dat r => cases r; exact .inl rfl
    · cases h
theorem re_mt (hK : g.K = X.K) {T : MTy} (pa : PlainAttrs T.s) (slot : Slot T.s name id) (hty : typeOf (.builtin id) = pure (.type "method_descriptor")) (hm : MtR X id (rdMt g f)) (ho : PE X o (rd g B mo)) (ha : PA X (e :: es) (rdA g B ms))
    (hbase : attributeBase o name X.env (eval o X.env) = eval o X.env := by rfl)
    (hfew : ((backTo cpos (starEach (e :: es) X.env)).all (fun x => !x.1) && (backToKw cpos (keywordEach [] X.env)).all (fun x => x.1.isSome)
      && decide ((e :: es).length + ([] : List Keyword).length + (if ([] : List Keyword).isEmpty then 0 else 1) < 30)) = true := by rfl)
    (hline : (apos.endLine == cpos.line) = true := by rfl) (hs : starEach (e :: es) X.env = (false, eval e X.env) :: starEach es X.env := by rfl) (hplain : (backTo cpos (starEach es X.env)).any (·.1) = false := by rfl) :
    PE X (.Call (.Attribute o name apos) (e :: es) [] cpos) (rd g B (mMt T f mo ms)) := (pe_bmD pa slot hty hm ho ha hbase hfew hline hs hplain).imp fun σ H Q ⟨bs, ρ, F, N, env, S, s, e, p⟩ => by
  refine ⟨bs, ρ, F, N, env, S, s, e, (Post.bind (R1 := RW g) p).imp fun x H1 ⟨ρ1, F1, wx, S1, g1, s1, r1, p1⟩ => ?_⟩
  split at p1
  · rename_i hw
    refine ⟨hK ▸ ty_ok s1 r1 hw, bs, ρ1, F1, N, env, S1, s1, e.mono g1, (Post.bind (R1 := RWs g) p1).imp fun xs H2 ⟨ρ2, F2, ws, S2, g2, s2, r2, p2⟩ => ?_⟩
    exact ⟨bs, ρ2, F2, N, S2, wx, ws, s2, r1.mono g2, r2, post_op p2⟩
  · exact p1.elim
theorem re_mt0 (hK : g.K = X.K) {T : MTy} (pa : PlainAttrs T.s) (slot : Slot T.s name id) (hty : typeOf (.builtin id) = pure (.type "method_descriptor")) (hm : MtR X id (rdMt g f)) (ho : PE X o (rd g B mo))
    (hbase : attributeBase o name X.env (eval o X.env) = eval o X.env := by rfl) (hline : (apos.endLine == cpos.line) = true := by rfl) :
    PE X (.Call (.Attribute o name apos) [] [] cpos) (rd g B (mMt T f mo mNil)) := (pe_bmD0 pa slot hty hm ho hbase hline).imp fun σ H Q ⟨bs, ρ, F, N, env, S, s, e, p⟩ => by
  refine ⟨bs, ρ, F, N, env, S, s, e, (Post.bind (R1 := RW g) p).imp fun x H1 ⟨ρ1, F1, wx, S1, g1, s1, r1, p1⟩ => ?_⟩
  split at p1
  · rename_i hw
    refine ⟨hK ▸ ty_ok s1 r1 hw, bs, ρ1, F1, N, S1, wx, [], s1, r1, .nil, ?_⟩
    exact post_op (B := B) (σ := σ) p1
  · exact p1.elim
/-- xs.append(w), xs.extend(ys), xs.pop(), xs.pop(i) -/
def appF : OpM := fun bs x ws S => match x, ws with
  | .loc n, [w] => match S[n]? with
    | some (.lst us) => if us.length < 100000 ∧ mayW bs n w = true then some (.non, S.set n (.lst (us ++ [w]))) else none
    | _ => none
  | _, _ => none
def extOf (S : Store) : W → Option (List W)
  | .dat (.list ds) => some (ds.map .dat)
  | .loc n => match S[n]? with
    | some (.lst ws) => some ws
    | _ => none
  | _ => none
def extF : OpM := fun bs x ws S => match x, ws with
  | .loc n, [y] => match S[n]?, extOf S y with
    | some (.lst us), some zs => if us.length + zs.length ≤ 100000 ∧ zs.all (mayW bs n) = true then some (.non, S.set n (.lst (us ++ zs))) else none
    | _, _ => none
  | _, _ => none
def popF : OpM := fun bs x ws S => match x, ws with
  | .loc n, [] => match S[n]? with
    | some (.lst us) => match us[us.length - 1]? with
      | some w => some (w, S.set n (.lst us.dropLast))
      | none => none
    | _ => none
  | .loc n, [.dat (.int i)] => match S[n]? with
    | some (.lst us) => if -(2 ^ 63) ≤ i ∧ i < 2 ^ 63 then match seqIndex? i us.length with
      | some k => match us[k]? with
        | some w => some (w, S.set n (.lst (us.eraseIdx k)))
        | none => none
      | none => none
      else none
    | _ => none
  | _, _ => none
theorem undAll_app {b : Nat} {xs ys : List W} (h : W.undAll b xs = true) (k : W.undAll b ys = true) : W.undAll b (xs ++ ys) = true := by
  rw [undAll_iff] at h k ⊢
  intro x hx
  rcases List.mem_append.mp hx with z | z
  · exact h x z
  · exact k x z
theorem undAll_sub {b : Nat} {xs ys : List W} (h : W.undAll b xs = true) (k : ∀ y ∈ ys, y ∈ xs) : W.undAll b ys = true := by
  rw [undAll_iff] at h ⊢
  exact fun y hy => h y (k y hy)
theorem IsAll.app {K : PySem.W.Frag} {ws' : List W} {vs' : List V} (k : IsAll K ρ F vs' ws') : ∀ {ws : List W} {vs : List V}, IsAll K ρ F vs ws → IsAll K ρ F (vs ++ vs') (ws ++ ws')
  | _, _, .nil => k
  | _, _, .cons a b => .cons a (IsAll.app k b)
theorem IsAll.dropLast {K : PySem.W.Frag} : ∀ {ws : List W} {vs : List V}, IsAll K ρ F vs ws → IsAll K ρ F vs.dropLast ws.dropLast
  | _, _, .nil => .nil
  | _, _, .cons a .nil => .nil
  | _, _, .cons a (.cons b c) => .cons a (IsAll.dropLast (.cons b c))
theorem IsAll.erase {K : PySem.W.Frag} : ∀ (k : Nat) {ws : List W} {vs : List V}, IsAll K ρ F vs ws → IsAll K ρ F (vs.eraseIdx k) (ws.eraseIdx k)
  | _, _, _, .nil => .nil
  | 0, _, _, .cons a b => b
  | k + 1, _, _, .cons a b => .cons a (IsAll.erase k b)
theorem mt_app : MtR X "list.append" (rdMt g appF) := by
  intro pins sh σ H x xs v us Q I rx rv ⟨bs, ρ, F, N, S, wx, ws, s, r, l, p⟩
  unfold appF at p
  split at p
  · rename_i n w
    cases r with
    | loc hn =>
      rename_i a
      obtain ⟨y, rfl, ry⟩ := all_one l
      split at p
      · rename_i us' hS
        split at p
        · rename_i hm
          obtain ⟨vs, e, q⟩ := s.cell n _ _ hS hn
          refine mt_append pins sh σ H _ _ v us Q I rx rv ⟨a, vs, y, rfl, rfl, e, by rw [q.len]; exact Nat.lt_of_lt_of_le hm.1 (by decide), ?_⟩
          exact p ρ F _ _ (Grow.refl _ _) (s.write hS rfl hn ⟨_, upd_same, q.snoc ry⟩ fun b hb hlt => undAll_app ((s.bot b hb).2 n _ hlt hS) (by rw [undAll_iff]; intro z hz; simp at hz; rw [hz]; exact mayW_le hm.2 hb hlt)) (.dat .non)
        · exact p.elim
      · exact p.elim
  · exact p.elim
theorem ext_of {H : Hp} {zs : List W} {w : W} {v : V} (s : Sim g bs ρ F N S H) (r : Is g.K ρ F v w) (h : extOf S w = some zs) : ∃ b vs, v = .ref b ∧ H b = some (.lst vs) ∧ IsAll g.K ρ F vs zs := by
  unfold extOf at h
  split at h
  · cases h
    cases r with
    | dat r => cases r with
      | lst e l => exact ⟨_, _, rfl, s.ex _ _ e, l.isAll⟩
  · rename_i n
    cases r with
    | loc hn =>
      split at h
      · rename_i ws hS
        cases h
        obtain ⟨vs, e, q⟩ := s.cell n _ _ hS hn
        exact ⟨_, vs, rfl, e, q⟩
      · cases h
  · cases h
theorem mt_ext : MtR X "list.extend" (rdMt g extF) := by
  intro pins sh σ H x xs v us Q I rx rv ⟨bs, ρ, F, N, S, wx, ws, s, r, l, p⟩
  unfold extF at p
  split at p
  · rename_i n w
    cases r with
    | loc hn =>
      rename_i a
      obtain ⟨y, rfl, ry⟩ := all_one l
      split at p
      · rename_i us' zs hS hz
        split at p
        · rename_i hm
          obtain ⟨vs, e, q⟩ := s.cell n _ _ hS hn
          obtain ⟨b, vz, rfl, e2, q2⟩ := ext_of s ry hz
          refine mt_extend pins sh σ H _ _ v us Q I rx rv ⟨a, b, vs, vz, rfl, rfl, e, e2, by rw [q.len, q2.len]; exact Nat.le_trans hm.1 (by decide), ?_⟩
          exact p ρ F _ _ (Grow.refl _ _) (s.write hS rfl hn ⟨_, upd_same, q2.app q⟩ fun b hb hlt => undAll_app ((s.bot b hb).2 n _ hlt hS) (by rw [undAll_iff]; intro z hz; exact mayW_le (List.all_eq_true.mp hm.2 z hz) hb hlt)) (.dat .non)
        · exact p.elim
      · exact p.elim
  · exact p.elim
theorem mt_popAll : MtR X "list.pop" (rdMt g popF) := by
  intro pins sh σ H x xs v us Q I rx rv ⟨bs, ρ, F, N, S, wx, ws, s, r, l, p⟩
  unfold popF at p
  split at p
  · rename_i n
    cases r with
    | loc hn =>
      rename_i a
      cases l
      split at p
      · rename_i us' hS
        split at p
        · rename_i w hw
          obtain ⟨vs, e, q⟩ := s.cell n _ _ hS hn
          obtain ⟨y, hy, ry⟩ := q.get hw
          refine mt_pop pins sh σ H _ _ v us Q I rx rv ⟨a, vs, y, rfl, rfl, e, by rw [q.len]; exact hy, ?_⟩
          exact p ρ F _ _ (Grow.refl _ _) (s.write hS rfl hn ⟨_, upd_same, q.dropLast⟩ fun b hb hlt => undAll_sub ((s.bot b hb).2 n _ hlt hS) fun y hy => List.dropLast_subset _ hy) ry
        · exact p.elim
      · exact p.elim
  · rename_i n i
    cases r with
    | loc hn =>
      rename_i a
      obtain ⟨y, rfl, ry⟩ := all_one l
      have := is_int ry
      subst this
      split at p
      · rename_i us' hS
        split at p
        · rename_i hb
          split at p
          · rename_i k hk
            split at p
            · rename_i w hw
              obtain ⟨vs, e, q⟩ := s.cell n _ _ hS hn
              obtain ⟨y, hy, ry⟩ := q.get hw
              refine mt_popAt pins sh σ H _ _ v us Q I rx rv ⟨a, vs, i, k, y, rfl, rfl, e, hb.1, hb.2, by rw [q.len]; exact hk, hy, ?_⟩
              exact p ρ F _ _ (Grow.refl _ _) (s.write hS rfl hn ⟨_, upd_same, q.erase k⟩ fun b hb hlt => undAll_sub ((s.bot b hb).2 n _ hlt hS) fun y hy => List.mem_of_mem_eraseIdx hy) ry
            · exact p.elim
          · exact p.elim
        · exact p.elim
      · exact p.elim
  · exact p.elim
/-- a dict that is a cell, and not locked -/
def isDicC (S : Store) : W → Bool
  | .loc n => match S[n]? with
    | some (.dic _) => true
    | _ => false
  | _ => false
/-- a dict whose kind is that of the key -/
def dicRdy (S : Store) (x : W) (kvs : List (PyData × W)) (k : DKey) : Bool := (kvs.all fun p => (dkey p.1).any fun k' => kindK k' == kindK k) && (isDicC S x || !kvs.isEmpty)
/-- d.get(k), d.get(k, x) -/
def getF : OpM := fun _ x ws S => match dicOf S x, ws with
  | some kvs, [.dat d] => match dkey d with
    | some k => if dicRdy S x kvs k = true then some ((lookW kvs k).getD .non, S) else none
    | none => none
  | some kvs, [.dat d, y] => match dkey d with
    | some k => if dicRdy S x kvs k = true then some ((lookW kvs k).getD y, S) else none
    | none => none
  | _, _ => none
theorem kind_of {H : Hp} {a : Addr} {n : Nat} {vs : List (PyData × V)} {ws : List (PyData × W)} {K : PySem.W.Frag} {k : DKey} (d : DicH H a n vs) (q : IsKV K ρ F vs ws) (hk : (ws.all fun p => (dkey p.1).any fun k' => kindK k' == kindK k) = true) (hne : ws.isEmpty = false) : kindK k = n := by
  cases q with
  | nil => simp at hne
  | @cons k0 v0 vs0 w0 ws0 a0 b0 =>
    rw [List.all_cons, Bool.and_eq_true] at hk
    have h1 := hk.1
    generalize hv : (k0, v0) :: vs0 = vs at d
    cases d with
    | @k kvs e =>
      cases kvs with
      | nil => cases hv
      | cons y l =>
        simp only [List.map_cons, List.cons.injEq, Prod.mk.injEq] at hv
        have z : dkey (kD y.1) = some (.one y.1) := dkey_d (.one y.1)
        rw [hv.1.1, z] at h1
        simp only [Option.any_some, beq_iff_eq] at h1
        exact h1.symm
    | @t kvs e =>
      cases kvs with
      | nil => cases hv
      | cons y l =>
        simp only [List.map_cons, List.cons.injEq, Prod.mk.injEq] at hv
        have z : dkey (.tuple (y.1.map kD)) = some (.tup y.1) := dkey_d (.tup y.1)
        rw [hv.1.1, z] at h1
        simp only [Option.any_some, beq_iff_eq] at h1
        exact h1.symm
/-- the dict at hand, of the kind of a key -/
theorem dic_ready {pins : List (Addr × Obj)} {sh : Shared} {H : Hp} {w : W} {v : V} {ws : List (PyData × W)} {k : DKey} (I : Inv X pins σ H sh) (s : Sim g bs ρ F N S H) (r : Is g.K ρ F v w) (h : dicOf S w = some ws)
    (hk : dicRdy S w ws k = true) :
    ∃ H', Inv X pins σ H' sh ∧ Sim g bs ρ F N S H' ∧ ∃ a vs, v = .ref a ∧ DicH H' a (kindK k) vs ∧ IsKV g.K ρ F vs ws := by
  unfold dicRdy at hk
  rw [Bool.and_eq_true] at hk
  obtain ⟨h1, h2⟩ := hk
  cases w with
  | loc n =>
    unfold dicOf at h
    cases r with
    | loc hn =>
      simp only at h
      split at h
      · rename_i us hS
        cases h
        obtain ⟨H', I', s', vs, d, q⟩ := dic_kind I s hn hS h1
        exact ⟨H', I', s', _, vs, rfl, d.h, q⟩
      · rename_i us hS
        cases h
        obtain ⟨a, n', vs, e, d, q⟩ := dic_of (w := .loc n) s (.loc hn) (by simp only [dicOf, hS]; rfl)
        have := kind_of d q h1 (by simpa [isDicC, hS] using h2)
        subst this
        exact ⟨H, I, s, a, vs, e, d, q⟩
      · cases h
  | dat d =>
    obtain ⟨a, n, vs, e, d, q⟩ := dic_of s r h
    have := kind_of d q h1 (by simpa [isDicC] using h2)
    subst this
    exact ⟨H, I, s, a, vs, e, d, q⟩
  | tw us => simp [dicOf] at h
  | lw us => simp [dicOf] at h
  | kt us => simp [dicOf] at h
theorem mt_get (hu : X.A.units + 1 < cLine) : MtR X "dict.get" (rdMt g getF) := by
  intro pins sh σ H x xs v us Q I rx rv ⟨bs, ρ, F, N, S, wx, ws, s, r, l, p⟩
  unfold getF at p
  split at p
  · rename_i kvs d hd
    obtain ⟨y, rfl, ry⟩ := all_one l
    split at p
    · rename_i k hk
      split at p
      · rename_i hc
        have e := dkey_eq hk
        subst e
        obtain ⟨H', I', s', a, vs, rfl, dh, q⟩ := dic_ready I s r hd hc
        obtain rfl : v = Value.ref a := rx
        obtain ⟨u, rfl, ru⟩ := rv.one
        have rk : Rp g.K F y k.d := by
          cases ry with
          | dat r => exact r
        have z := isKV_val q k
        refine d_get1 hu I' (dic_get dh s'.ex rk rfl) ru fun w' s2 I2 rw' => ⟨_, H', I2, rw', ?_⟩
        cases hl : lookW kvs k with
        | none => rw [hl] at z p; rw [z]; exact p ρ F H' _ (Grow.refl _ _) s' (.dat .non)
        | some w => rw [hl] at z p; obtain ⟨v, h1, h2⟩ := z; rw [h1]; exact p ρ F H' _ (Grow.refl _ _) s' h2
      · exact p.elim
    · exact p.elim
  · rename_i kvs d yw hd
    obtain ⟨y, y2, rfl, ry, ry2⟩ := all_two l
    split at p
    · rename_i k hk
      split at p
      · rename_i hc
        have e := dkey_eq hk
        subst e
        obtain ⟨H', I', s', a, vs, rfl, dh, q⟩ := dic_ready I s r hd hc
        obtain rfl : v = Value.ref a := rx
        cases rv with
        | cons ru rv =>
          obtain ⟨u2, rfl, ru2⟩ := Vals.one rv
          have rk : Rp g.K F y k.d := by
            cases ry with
            | dat r => exact r
          have z := isKV_val q k
          refine d_get2 hu I' (dic_get dh s'.ex rk rfl) ru ru2 fun w' s2 I2 rw' => ⟨_, H', I2, rw', ?_⟩
          cases hl : lookW kvs k with
          | none => rw [hl] at z p; rw [z]; exact p ρ F H' _ (Grow.refl _ _) s' ry2
          | some w => rw [hl] at z p; obtain ⟨v, h1, h2⟩ := z; rw [h1]; exact p ρ F H' _ (Grow.refl _ _) s' h2
      · exact p.elim
    · exact p.elim
  · exact p.elim
end
end Rf

namespace Rf
open PySem L2 PyProof.Rows

/-! ### frames that pop -/
section
variable {g : Gx} {K : PySem.W.Frag} {bs : List Nat} {ρ : List Addr} {F N H : Hp} {S : Store}
mutual
theorem Is.und : ∀ {w : W} {v : V}, Is K ρ F v w → w.und ρ.length = true
  | .dat _, _, _ => rfl
  | .loc n, _, h => by
    cases h with
    | loc r => simp [W.und]; exact (List.getElem?_eq_some_iff.mp r).1
  | .tw ws, _, h => by
    cases h with
    | tw _ r => exact IsAll.und r
  | .lw ws, _, h => by
    cases h with
    | lw _ r => exact IsAll.und r
  | .kt _, _, _ => rfl
theorem IsAll.und : ∀ {ws : List W} {vs : List V}, IsAll K ρ F vs ws → W.undAll ρ.length ws = true
  | [], _, _ => rfl
  | w :: ws, _, h => by
    cases h with
    | cons a b => simp [W.undAll, Is.und a, IsAll.und b]
end
mutual
theorem Is.pop {b : Nat} : ∀ {w : W} {v : V}, Is K ρ F v w → w.und b = true → Is K (ρ.take b) F v w
  | .dat _, _, h, _ => by
    cases h with
    | dat r => exact .dat r
  | .loc n, _, h, u => by
    cases h with
    | loc r =>
      simp [W.und] at u
      exact .loc (by rw [List.getElem?_take_of_lt u]; exact r)
  | .tw ws, _, h, u => by
    cases h with
    | tw s r => exact .tw s (IsAll.pop r (by simpa [W.und] using u))
  | .lw ws, _, h, u => by
    cases h with
    | lw s r => exact .lw s (IsAll.pop r (by simpa [W.und] using u))
  | .kt ds, _, h, u => by
    cases h with
    | kt s c d r => exact .kt s c d r
theorem IsAll.pop {b : Nat} : ∀ {ws : List W} {vs : List V}, IsAll K ρ F vs ws → W.undAll b ws = true → IsAll K (ρ.take b) F vs ws
  | [], _, h, _ => by cases h; exact .nil
  | w :: ws, _, h, u => by
    cases h with
    | cons x y =>
      simp [W.undAll] at u
      exact .cons (Is.pop x u.1) (IsAll.pop y u.2)
end
theorem IsKV.und : ∀ {ws : List (PyData × W)} {vs : List (PyData × V)}, IsKV K ρ F vs ws → (ws.all fun p => p.2.und ρ.length) = true
  | _, _, .nil => rfl
  | _, _, .cons a b => by simp [List.all_cons, a.und]; simpa using IsKV.und b
theorem IsFs.und : ∀ {ws : List (Str × W)} {vs : List (Str × V)}, IsFs K ρ F vs ws → (ws.all fun p => p.2.und ρ.length) = true
  | _, _, .nil => rfl
  | _, _, .cons a b => by simp [List.all_cons, a.und]; simpa using IsFs.und b
theorem IsKV.pop {b : Nat} : ∀ {ws : List (PyData × W)} {vs : List (PyData × V)}, IsKV K ρ F vs ws → (ws.all fun p => p.2.und b) = true → IsKV K (ρ.take b) F vs ws
  | _, _, .nil, _ => .nil
  | _, _, .cons a c, u => by
    rw [List.all_cons, Bool.and_eq_true] at u
    exact .cons (a.pop u.1) (IsKV.pop c u.2)
theorem IsFs.pop {b : Nat} : ∀ {ws : List (Str × W)} {vs : List (Str × V)}, IsFs K ρ F vs ws → (ws.all fun p => p.2.und b) = true → IsFs K (ρ.take b) F vs ws
  | _, _, .nil, _ => .nil
  | _, _, .cons a c, u => by
    rw [List.all_cons, Bool.and_eq_true] at u
    exact .cons (a.pop u.1) (IsFs.pop c u.2)
theorem CellOk.und {a : Addr} {c : Cell} (h : CellOk g ρ F H a c) : c.und ρ.length = true := by
  cases c with
  | lst ws => obtain ⟨vs, _, l⟩ := h; exact l.und
  | dic ws => rcases h with ⟨_, _, l⟩ | ⟨_, _, l⟩ <;> exact l.und
  | ins c fs => obtain ⟨_, _, _, l⟩ := h; exact l.und
  | fz ws => rcases h with ⟨_, _, _, _, l⟩ | ⟨_, _, _, _, l⟩ <;> exact l.und
theorem CellOk.pop {a : Addr} {c : Cell} {b : Nat} (h : CellOk g ρ F H a c) (u : c.und b = true) : CellOk g (ρ.take b) F H a c := by
  cases c with
  | lst ws => obtain ⟨vs, e, l⟩ := h; exact ⟨vs, e, l.pop u⟩
  | dic ws =>
    rcases h with ⟨k, e, l⟩ | ⟨k, e, l⟩
    · exact .inl ⟨k, e, l.pop u⟩
    · exact .inr ⟨k, e, l.pop u⟩
  | ins c fs => obtain ⟨d, k, e, l⟩ := h; exact ⟨d, k, e, l.pop u⟩
  | fz ws =>
    rcases h with ⟨o, k, e, f, l⟩ | ⟨o, k, e, f, l⟩
    · exact .inl ⟨o, k, e, f, l.pop u⟩
    · exact .inr ⟨o, k, e, f, l.pop u⟩
theorem Sim.pushB (s : Sim g bs ρ F N S H) : Sim g (S.length :: bs) ρ F N S H :=
  ⟨s.len, s.nd, s.ex, s.fr, s.cell, s.hid, s.nf, s.nl, (fun b hb => by
    rcases List.mem_cons.mp hb with h | h
    · subst h
      refine ⟨Nat.le_refl _, fun k c hk e => ?_⟩
      have hk' : k < ρ.length := by rw [s.len]; exact hk
      have := (s.cell k c ρ[k] e (List.getElem?_eq_getElem hk')).und
      rwa [s.len] at this
    · exact s.bot b h), s.tab, s.nt⟩
theorem Sim.dropB {b : Nat} (s : Sim g (b :: bs) ρ F N S H) : Sim g bs ρ F N S H := ⟨s.len, s.nd, s.ex, s.fr, s.cell, s.hid, s.nf, s.nl, fun b hb => s.bot b (List.mem_cons_of_mem _ hb), s.tab, s.nt⟩
theorem Sim.pop {b : Nat} (s : Sim g (b :: bs) ρ F N S H) (hb : ∀ c ∈ bs, c ≤ b) : Sim g bs (ρ.take b) F N (S.take b) H := by
  obtain ⟨b1, b2⟩ := s.bot b (List.mem_cons_self ..)
  have hsub : ∀ a ∈ ρ.take b, a ∈ ρ := fun a ha => List.mem_of_mem_take ha
  refine ⟨by simp [s.len], s.nd.sublist (List.take_sublist ..), s.ex, fun n c a e1 e2 e3 => (by
    have hn : n < b := by
      have := (List.getElem?_eq_some_iff.mp e1).1
      simp at this; omega
    rw [List.getElem?_take_of_lt hn] at e1 e2
    exact s.fr n c a e1 e2 e3), fun n c a e1 e2 => ?_, s.hid, fun a o e => ⟨(s.nf a o e).1, fun h => (s.nf a o e).2 (hsub a h)⟩, s.nl, fun c hc => ?_, s.tab, s.nt⟩
  · have hn : n < b := by
      have := (List.getElem?_eq_some_iff.mp e1).1
      simp at this; omega
    rw [List.getElem?_take_of_lt hn] at e1 e2
    exact (s.cell n c a e1 e2).pop (b2 n c hn e1)
  · obtain ⟨c1, c2⟩ := s.bot c (List.mem_cons_of_mem _ hc)
    have := hb c hc
    refine ⟨by simp; omega, fun k x hk e => c2 k x hk ?_⟩
    rw [List.getElem?_take_of_lt (by omega)] at e
    exact e
end
abbrev FnT := List Nat → List W → Store → Out W
def popR (b : Nat) : Out W → Out W
  | .ok w S => if w.und b = true then .ok w (S.take b) else .ok w S
  | .ex c ws S => if W.undAll b ws = true then .ex c ws (S.take b) else .ex c ws S
  | .stuck => .stuck
def SO.out : SO → Out W
  | .nx _ S => .ok .non S
  | .rt w S => .ok w S
  | .ex c ws _ S => .ex c ws S
  | _ => .stuck
def startE (n : Nat) (ws : List W) : Env := ws.map some ++ List.replicate (n - ws.length) none
/-- a def of n names, the first p of them parameters -/
def fnM (n p : Nat) (m : MS) : FnT := fun bs ws S => if ws.length = p then popR S.length (m (S.length :: bs) (startE n ws) S).out else .stuck
def spF (g : Gx) (f : FnT) : Sp := fun vs H Q E => ∃ bs ρ F N S ws, Sim g bs ρ F N S H ∧ IsAll g.K ρ F vs ws ∧ g.more ρ F ∧ Post g (fun c d _ H => E c d H) (RW g) bs ρ F N [] Q (f bs ws S)
section
variable {g : Gx} {B : WX} {bs : List Nat} {ρ : List Addr} {F N H : Hp} {S : Store} {σ : L2.St}
theorem EnvR.start {n : Nat} {N' : List Str} (hn : N'.length = n) {vs : List V} {ws : List W} (h : IsAll g.K ρ F vs ws) (hm : g.more ρ F) : EnvR g ρ F (start N' vs) (startE n ws) := by
  subst hn
  have hl := h.len
  refine ⟨by simp [L2.start, startE, hl], fun i w hi => ?_, hm⟩
  unfold startE at hi
  by_cases hk : i < ws.length
  · rw [List.getElem?_append_left (by simpa using hk), List.getElem?_map] at hi
    cases hw : ws[i]? with
    | none => rw [hw] at hi; cases hi
    | some w' =>
      rw [hw] at hi
      cases hi
      obtain ⟨v, hv, r⟩ := h.get hw
      refine ⟨v, ?_, r⟩
      unfold L2.start
      rw [List.getElem?_append_left (by simp [hl]; exact hk), List.getElem?_map, hv]; rfl
  · rw [List.getElem?_append_right (by simpa using Nat.le_of_not_lt hk)] at hi
    rw [List.getElem?_replicate] at hi
    split at hi
    · cases hi
    · cases hi
theorem grow_take {b : Nat} {ρ' : List Addr} {F' : Hp} (gr : Grow ρ F ρ' F') (hb : ρ.length = b) : Grow ρ F (ρ'.take b) F' := by
  obtain ⟨⟨t, e⟩, x⟩ := gr
  subst e hb
  exact ⟨⟨[], by simp⟩, x⟩
/-- a body's end, its frame popped -/
theorem post_pop {Q : VK} {E : XK} {o : SO} (hS : ρ.length = S.length) (hb : ∀ c ∈ bs, c ≤ S.length) (h : Post g (fun c d _ H => E c d H) (RW g) bs ρ F N [] Q (popR S.length o.out)) :
    PostS g (fun c d _ H => E c d H) (S.length :: bs) ρ F N { nx := fun _ H' => Q .non H', rt := Q } o := by
  cases o with
  | nx e S1 =>
    intro ρ' F' H' σ' gr s _
    have h' : Post g (fun c d _ H => E c d H) (RW g) bs ρ F N [] Q (.ok .non (S1.take S.length)) := h
    exact h' (ρ'.take S.length) F' H' .non (grow_take gr hS) (s.pop hb) (.dat .non)
  | rt w S1 =>
    intro ρ' F' H' v gr s r
    have h' : Post g (fun c d _ H => E c d H) (RW g) bs ρ F N [] Q (if w.und S.length = true then .ok w (S1.take S.length) else .ok w S1) := h
    by_cases hw : w.und S.length = true
    · rw [if_pos hw] at h'
      exact h' (ρ'.take S.length) F' H' v (grow_take gr hS) (s.pop hb) (r.pop hw)
    · rw [if_neg hw] at h'
      exact h' ρ' F' H' v gr s.dropB r
  | bk e S1 => exact h.elim
  | ct e S1 => exact h.elim
  | ex c ws e S1 =>
    intro ρ' F' H' σ' d gr s _ r
    have h' : Post g (fun c d _ H => E c d H) (RW g) bs ρ F N [] Q (if W.undAll S.length ws = true then .ex c ws (S1.take S.length) else .ex c ws S1) := h
    by_cases hw : W.undAll S.length ws = true
    · rw [if_pos hw] at h'
      refine h' (ρ'.take S.length) F' H' d (grow_take gr hS) (s.pop hb) ?_
      cases ws with
      | nil => exact r
      | cons w ws =>
        obtain ⟨a, v, e1, e2, e3⟩ := r
        simp [W.undAll] at hw
        exact ⟨a, v, e1, e2, e3.pop hw.1⟩
    · rw [if_neg hw] at h'
      exact h' ρ' F' H' d gr s.dropB r
  | stuck => exact h.elim
/-- room, and nothing is being printed -/
structure RoomG (k : Nat) (A : Around) : Prop where
  rm : Room k A
  gd : A.guards = some []
theorem RoomG.mono {j k : Nat} {A : Around} (r : RoomG k A) (h : j ≤ k) : RoomG j A := ⟨r.rm.mono h, r.gd⟩
theorem RoomG.deeper {k : Nat} {A : Around} (r : RoomG (k + 1) A) (env : PySem.Env) : RoomG k (A.deeper env) := ⟨r.rm.deeper env, r.gd⟩
variable {P : Program} {w : World} {K : PySem.W.Frag} {mg : Str → Option Value} {base : Heap}
/-- what a def does, called where nothing is being printed -/
structure FnG (P : Program) (w : World) (K : PySem.W.Frag) (mg : Str → Option Value) (base : Heap) (k : Nat) (f : Addr) (fd : FuncData) (ps : List Str) (sp : Sp) : Prop where
  cnt : ∀ vs H Q E, sp vs H Q E → vs.length = ps.length
  go : ∀ (A : Around) (st : List PySem.Env) (s : Shared) (H : Hp) (as : Args) (us : List Value) (vs : List V) (Q : VK) (E : XK), RoomG k A → Env0 P w K mg base A st s H → BindsTo s fd as (ps.zip us) → Vals vs us → sp vs H Q E →
    codeAny (model P w) A (.call (.ref f) as) (CR (L2.CX P w) st P w H s Q E) s
theorem fn_ok {x qual : Str} {st : Stmt} {f : Addr} {fd : FuncData} {N ps : List Str} {k n p : Nat} {m : MS} (Fu : Fun K x qual st f fd) (S : FnScope N ps (defScope st))
    (hbody : ∀ (cdv : Value) (A : Around) (outer : List PySem.Env) (s : Shared) (H : Hp) (E : XK), RoomG k (A.deeper (envOfC qual (defScope st) s.heap.objs.size f cdv)) → fd.code = cdv →
      PSs (cxOf (L2.CX P w) P w K mg base N qual (defScope st) f cdv A outer s H E) (defBody st) (rdS g (fun c d _ H => E c d H) m)) (hn : N.length = n := by rfl) (hp : ps.length = p := by rfl) : FnG P w K mg base (k + 1) f fd ps (spF g (fnM n p m)) := by
  have cnt : ∀ vs H Q E, spF g (fnM n p m) vs H Q E → vs.length = ps.length := fun vs H Q E h => by
    obtain ⟨bs, ρ, F, N', S, ws, s, l, _, q⟩ := h
    unfold fnM at q
    split at q
    · rename_i hl; rw [l.len, hp]; exact hl
    · exact q.elim
  obtain ⟨oc, od, kV, doc, pm, an, cdv, ct, osl, rfl, lk, hcd⟩ := Fu.ex
  refine ⟨cnt, fun A st1 s H as us vs Q E room e0 bind vals h => ?_⟩
  have hin : K.In s.heap := e0.mod.kin.keeps fun b o z => (e0.bs b o z).1
  have lim : s.heap.NoLimit := e0.mod.nolimit.keeps fun b o z => (e0.bs b o z).1
  have kinds : ∀ y ∈ ps.zip us, (defScope st).names.lookup y.1 = some .local ∨ ((defScope st).names.lookup y.1 = some .cell ∧ ((cellsFrom (s.heap.objs.size + 1) (defScope st).names []).lookup y.1).isSome = true) := fun y hy => by
    obtain ⟨y1, y2⟩ := y
    rcases S.par y1 (List.of_mem_zip hy).1 with z | z
    · exact .inl z
    · exact .inr ⟨z, PySem.W.cellsFrom_some _ _ _ (.inl z)⟩
  refine codeAny_call_function room.rm.depth (hin _ _ lk) rfl S.co S.gen rfl (PySem.W.codeRec_of hin hcd) (bind _ _ _ _ ?_)
  refine wpAny_newFunctionEnv_cells S.kind kinds fun env1 henv s1 new => ?_
  subst henv
  refine ⟨lim.keeps new.toInCall.keep, codeAny_func ?_⟩
  have len := cnt _ _ _ _ h
  obtain ⟨bs, ρ, F, N', S', ws, sim, l, mo, q⟩ := h
  have run := hbody cdv A st1 s H E (room.deeper _) rfl
  have inv : Inv (cxOf (L2.CX P w) P w K mg base N qual (defScope st) f cdv A st1 s H E) [] (start N vs) H s1 := inv_start S room.rm.hd e0 len vals new
  unfold fnM at q
  split at q
  · have hq : rdS g (fun c d _ H => E c d H) m { nx := fun _ H' => Q .non H', rt := Q } (start N vs) H :=
      ⟨S'.length :: bs, ρ, F, N', startE n ws, S', sim.pushB, EnvR.start hn l mo, post_pop sim.len (fun c hc => (sim.bot c hc).1) q⟩
    refine wpAny_mono (run.run [] s1 (start N vs) H _ inv hq) (fun fl s' done => ?_) fun _ _ z => z
    cases fl with
    | ret u =>
      obtain ⟨v, σ', H', J, rel, z⟩ := done
      exact ⟨v, H', J.os, J.bare, J.base, J.hok, rel, z⟩
    | next =>
      obtain ⟨σ', H', J, z⟩ := done
      exact ⟨V.non, H', J.os, J.bare, J.base, J.hok, rfl, z⟩
    | brk => exact done.choose_spec.choose_spec.2.elim
    | cont => exact done.choose_spec.choose_spec.2.elim
  · exact q.elim
end
section
variable {X : Cx} {g : Gx} {B : WX} {k : Nat} {f : Addr} {fd : FuncData} {ps : List Str} {x : Str} {p pos : Pos} {e : Expr} {es : List Expr} {ms : M (List W)} {ff : FnT}
def mCall (f : FnT) (ms : M (List W)) : M W := fun bs env S => (ms bs env S).bind fun ws S1 => f bs ws S1
theorem post_at {bs : List Nat} {ρ : List Addr} {F N : Hp} {σ : L2.St} {Q : VK} {o : Out W} (h : Post g B (RW g) bs ρ F N σ Q o) : Post g (fun c d _ H => WE B σ c d H) (RW g) bs ρ F N [] Q o := by
  cases o with
  | ok w S => exact h
  | ex c ws S => exact h
  | stuck => exact h
/-- a call of such a def -/
theorem pe_callG {sp : Sp} {E : L2.St → XK} {t : TA} (Fo : FnG X.prog X.w X.K X.mg X.base k f fd ps sp) (room : RoomG k X.A) (hg : Gl X x) (hm : X.mg x = some (.ref f)) (hk : PySem.W.keepIn X.K (.ref f) = true) (bind : Binds X.K fd ps []) (out : ∀ σ, PassesAt (L2.CX X.prog X.w) X σ (E σ))
    (args : PA X (e :: es) t) (hdb : (x == ("__debug__" : Str)) = false) (he : starEach (e :: es) X.env = (false, eval e X.env) :: starEach es X.env) (hpl : (backTo pos (starEach es X.env)).any (·.1) = false) :
    PE X (.Call (.Name x p) (e :: es) [] pos) (fun σ H Q => t σ H fun vs H1 => sp vs H1 Q (E σ)) := by
  refine ⟨fun pins s σ H Q inv h => ?_⟩
  refine wpAny_Call_Name_kw (ld_glob inv hg hm ?_ hdb)
  refine PySem.W.callWith_K (h₀ := X.base) inv.ok.mod.kin hk (thn (args.run pos pins s σ H _ inv h) fun us s1 told => ?_) he hpl
  obtain ⟨vs, H1, inv1, rel, q⟩ := told
  refine ⟨inv1.kIn, wpAny_call ?_⟩
  have len : us.length = ps.length := rel.length.symm.trans (Fo.cnt _ _ _ _ q)
  have b := bind s1 us inv1.kIn (by simpa using len)
  rw [List.append_nil] at b
  refine codeAny_mono (Fo.go X.A X.stack s1 H1 ⟨us, []⟩ us vs Q (E σ) room inv1.env0 b rel q) fun r s' done => ?_
  cases r with
  | error ex => exact out σ pins H1 s1 ex s' inv1 done
  | ok fl =>
    cases fl with
    | ret u => exact inv1.after done
    | next => exact done.elim
    | brk => exact done.elim
    | cont => exact done.elim
theorem re_call (tk : Takes X B) (Fo : FnG X.prog X.w X.K X.mg X.base k f fd ps (spF g ff)) (hr : RoomG k X.A) (hg : Gl X x) (hm : X.mg x = some (.ref f)) (hk : PySem.W.keepIn X.K (.ref f) = true) (hb : Binds X.K fd ps [])
    (ha : PA X (e :: es) (rdA g B ms)) (hdb : (x == ("__debug__" : Str)) = false := by decide) (he : starEach (e :: es) X.env = (false, eval e X.env) :: starEach es X.env := by rfl) (hpl : (backTo pos (starEach es X.env)).any (·.1) = false := by rfl) :
    PE X (.Call (.Name x p) (e :: es) [] pos) (rd g B (mCall ff ms)) := (pe_callG Fo hr hg hm hk hb (passAt tk) ha hdb he hpl).imp fun σ H Q ⟨bs, ρ, F, N, env, S, s, e, p⟩ => by
  refine ⟨bs, ρ, F, N, env, S, s, e, (Post.bind (R1 := RWs g) p).imp fun vs H1 ⟨ρ1, F1, ws, S1, g1, s1, r1, p1⟩ => ?_⟩
  exact ⟨bs, ρ1, F1, N, S1, ws, s1, r1, (e.mono g1).more, post_at p1⟩
end
end Rf

namespace Rf
open PySem L2 PyProof.Rows

/-! ### what is walked, by the value -/
def ItR (X : Cx) (tg : Expr) (r : V → Hp → (It → Hp → Prop) → Prop) : Prop :=
  ∀ (pins : List (Addr × Obj)) (s : Shared) (σ : L2.St) (H : Hp) (x : V) (v : Value) (R : It → Hp → Prop), Inv X pins σ H s → RelV x v → r x H R → wpAny (model X.prog X.w) X.A (pyIter v) (PIE X pins σ tg R) X.xe s
theorem ItR.or {X : Cx} {tg : Expr} {r r' : V → Hp → (It → Hp → Prop) → Prop} (h : ItR X tg r) (h' : ItR X tg r') : ItR X tg (fun x H R => r x H R ∨ r' x H R) := by
  intro pins s σ H x v R I rx q
  rcases q with q | q
  · exact h pins s σ H x v R I rx q
  · exact h' pins s σ H x v R I rx q
theorem pi_it {X : Cx} {tg l : Expr} {tl : TE} {r : V → Hp → (It → Hp → Prop) → Prop} (hr : ItR X tg r) (hl : PE X l tl) : PI X tg l (fun σ H R => tl σ H fun x H1 => r x H1 R) := by
  refine ⟨fun pins s σ H R I h => ?_⟩
  exact thn (hl.run pins s σ H _ I h) fun v s1 ⟨x, H1, I1, r1, q1⟩ => hr pins s1 σ H1 x v R I1 r1 q1
section
variable {X : Cx} {tg : Expr}
theorem it_list : ItR X tg (fun x H R => ∃ a, x = .ref a ∧ (∃ xs, SqL X.K H a xs) ∧ R (Itl X.K a) H) := by
  intro pins s σ H x v R I rx q
  obtain ⟨a, rfl, ⟨xs, hq⟩, q⟩ := q
  cases rx
  obtain ⟨its, rv, p, hz⟩ := I.list hq
  exact wpAny_pyIter_list p.isList ⟨s.heap.objs.size, [s.heap.objs.size], _, _, H, rfl, I.kept (t' := s.toks) fun _ _ z => Heap.get?_push_of_some _ z, turn_list a _, ⟨_, Heap.get?_push_size _ rfl, rfl, rfl⟩, fun c hc => by
    have z : c = s.heap.objs.size := by simpa using hc
    rw [z]; exact I.fpOk (Nat.le_refl _) (I.hok.fresh (Nat.le_refl _)), q⟩
theorem it_tup : ItR X tg (fun x H R => ∃ a, x = .ref a ∧ (∃ xs, SqT X.K H a xs) ∧ R (Itt X.K a) H) := by
  intro pins s σ H x v R I rx q
  obtain ⟨a, rfl, ⟨xs, hq⟩, q⟩ := q
  cases rx
  obtain ⟨its, rv, p, hz⟩ := I.tuple hq
  exact wpAny_pyIter_tuple (show s.heap.IsTuple a its.toArray from p) ⟨s.heap.objs.size, [s.heap.objs.size], _, _, H, rfl, I.kept (t' := s.toks) fun _ _ z => Heap.get?_push_of_some _ z, turn_tuple a _, ⟨_, Heap.get?_push_size _ rfl, rfl, rfl⟩, fun c hc => by
    have z : c = s.heap.objs.size := by simpa using hc
    rw [z]; exact I.fpOk (Nat.le_refl _) (I.hok.fresh (Nat.le_refl _)), q⟩
variable {g : Gx} {B : WX} {a : Expr} {ma : M W}
def iterA (S : Store) (w : W) : Option Iter := match iterT w with
  | some it => some it
  | none => iterL S w
def mIt (m : M W) : M Iter := fun bs env S => (m bs env S).bind fun w S1 => match iterA S1 w with
  | some it => .ok it S1
  | none => .stuck
/-- a tuple or a list -/
theorem ri_any (hK : g.K = X.K) (h : PE X a (rd g B ma)) : PI X tg a (rdI g B (mIt ma)) := (pi_it (it_tup.or it_list) h).imp fun σ H R ⟨bs, ρ, F, N, env, S, s, e, p⟩ => by
  refine ⟨bs, ρ, F, N, env, S, s, e, (Post.iter (R := RW g) p).imp fun x H1 ⟨ρ1, F1, wx, S1, g1, s1, r1, p1⟩ => ?_⟩
  rw [← hK]
  unfold iterA at p1
  cases hw : tupOf wx with
  | some ws =>
    have e1 : iterT wx = some (.items ws) := by unfold iterT; rw [hw]; rfl
    rw [e1] at p1
    obtain ⟨a, vs, rfl, q, l⟩ := tup_of r1 hw
    exact .inl ⟨a, rfl, ⟨vs, Same.sqT s1.ex q⟩, p1 ρ1 F1 H1 _ (Grow.refl _ _) s1 (walk_tup q l)⟩
  | none =>
    have e1 : iterT wx = none := by unfold iterT; rw [hw]; rfl
    rw [e1] at p1
    right
    unfold iterL at p1
    cases wx with
    | dat d =>
      cases d <;> try exact p1.elim
      cases r1 with
      | dat r => cases r with
        | lst q r => exact ⟨_, rfl, ⟨_, SqL.of (s1.ex _ _ q)⟩, p1 ρ1 F1 H1 _ (Grow.refl _ _) s1 (walk_lst (SqL.of q) r.isAll)⟩
    | lw ws => cases r1 with
      | lw q r => exact ⟨_, rfl, ⟨_, s1.ex.seq q⟩, p1 ρ1 F1 H1 _ (Grow.refl _ _) s1 (walk_lst q r)⟩
    | tw ws => exact p1.elim
    | kt ws => exact p1.elim
    | loc n =>
      cases hc : S1[n]? with
      | none => simp only [hc] at p1; exact p1.elim
      | some c =>
        cases c with
        | lst ws =>
          simp only [hc] at p1
          cases r1 with
          | loc hn =>
            obtain ⟨vs, e, l⟩ := s1.cell n _ _ hc hn
            exact ⟨_, rfl, ⟨vs, SqL.of e⟩, p1 ρ1 F1 H1 _ (Grow.refl _ _) s1 (walk_cell hn)⟩
        | dic _ => simp only [hc] at p1; exact p1.elim
        | ins _ _ => simp only [hc] at p1; exact p1.elim
        | fz _ => simp only [hc] at p1; exact p1.elim
/-- a global of the module -/
theorem re_globE {x : Str} {d : PyData} {v : V} {pos : Pos} (hg : Gl X x) (hm : ∃ u, X.mg x = some u ∧ RelV v u) (hr : ∀ F, Rp g.K F v d) (hd : (x == ("__debug__" : Str)) = false := by decide) : PE X (.Name x pos) (rd g B (mCon d)) := by
  obtain ⟨u, h1, h2⟩ := hm
  exact re_glob hg h1 h2 hr hd
theorem un100 {A : Around} {k : Nat} (h : RoomG k A) : A.units + 100 < cLine := Nat.lt_of_le_of_lt (by omega) h.rm.un
theorem un1 {A : Around} {k : Nat} (h : RoomG k A) : A.units + 1 < cLine := Nat.lt_of_le_of_lt (by omega) h.rm.un
end
end Rf

namespace Rf
open PySem L2 PyProof.Rows
/-! ### targets that never raise -/
theorem calm_nil (ws : List W) (bs : List Nat) (env : Env) (S : Store) (c : Nat) (us : List W) (S1 : Store) : tNil ws bs env S ≠ .ex c us S1 := by
  cases ws <;> simp [tNil]
theorem calm_name {i : Nat} (w : W) (bs : List Nat) (env : Env) (S : Store) (c : Nat) (us : List W) (S1 : Store) : tName i w bs env S ≠ .ex c us S1 := by simp [tName]
theorem calm_cons {t : TM} {u : TMs} (h : ∀ w bs env S c us S1, t w bs env S ≠ .ex c us S1) (k : ∀ ws bs env S c us S1, u ws bs env S ≠ .ex c us S1) (ws : List W) (bs : List Nat) (env : Env) (S : Store) (c : Nat) (us : List W) (S1 : Store) : tCons t u ws bs env S ≠ .ex c us S1 := by
  cases ws with
  | nil => simp [tCons]
  | cons w r =>
    unfold tCons
    intro e
    cases ht : t w bs env S with
    | ok e1 S2 => simp only [ht, Out.bind_ok] at e; exact k _ _ _ _ _ _ _ e
    | ex c' us' S2 => exact h _ _ _ _ _ _ _ ht
    | stuck => simp [ht] at e
theorem calm_tup {n : Nat} {u : TMs} (k : ∀ ws bs env S c us S1, u ws bs env S ≠ .ex c us S1) (w : W) (bs : List Nat) (env : Env) (S : Store) (c : Nat) (us : List W) (S1 : Store) : tTup n u w bs env S ≠ .ex c us S1 := by
  unfold tTup
  split
  · split
    · exact k _ _ _ _ _ _ _
    · simp
  · simp
end Rf

namespace Rf
open PySem L2 PyProof.Rows RZ

/-! ### zip, enumerate -/
/-- what an iterator over a sequence stands for; L: a list -/
def RepQ (L : Bool) (g : Gx) (ρ : List Addr) (F : Hp) (it : Iter) (a : Addr) : Prop := ∀ bs ρ' F' N' S' H', Grow ρ F ρ' F' → Sim g bs ρ' F' N' S' H' →
  (∃ vs ws, (if L then SqL g.K H' a vs else SqT g.K H' a vs) ∧ IsAll g.K ρ' F' vs ws ∧ ∀ i, it.next i S' = some ws[i]?) ∨ ∀ i, it.next i S' = none
section
variable {X : Cx} {tg : Expr} {g : Gx} {B : WX} {bs : List Nat} {ρ : List Addr} {F N H : Hp} {S : Store} {a b e : Expr} {ma mb : M W} {ms : M (List W)} {p pos tpos : Pos} {elts : List Expr} {kk : Nat}
theorem RepQ.mono {L : Bool} {it : Iter} {x : Addr} {ρ' : List Addr} {F' : Hp} (r : RepQ L g ρ F it x) (gr : Grow ρ F ρ' F') : RepQ L g ρ' F' it x := fun bs ρ2 F2 N2 S2 H2 g2 s => r bs ρ2 F2 N2 S2 H2 (gr.trans g2) s
theorem rep_tup {w : W} {v : V} {it : Iter} (s : Sim g bs ρ F N S H) (r : Is g.K ρ F v w) (h : iterT w = some it) : ∃ x, v = .ref x ∧ (∃ vs, SqT g.K H x vs) ∧ RepQ false g ρ F it x := by
  unfold iterT at h
  simp only [Option.map_eq_some_iff] at h
  obtain ⟨ws, hw, rfl⟩ := h
  obtain ⟨x, vs, rfl, q, l⟩ := tup_of r hw
  exact ⟨x, rfl, ⟨vs, Same.sqT s.ex q⟩, fun bs ρ' F' N' S' H' gr s' => .inl ⟨vs, ws, Same.sqT s'.ex (Same.sqT gr.ex q), l.mono gr, fun i => rfl⟩⟩
theorem rep_lst {w : W} {v : V} {it : Iter} (s : Sim g bs ρ F N S H) (r : Is g.K ρ F v w) (h : iterL S w = some it) : ∃ x, v = .ref x ∧ (∃ vs, SqL g.K H x vs) ∧ RepQ true g ρ F it x := by
  unfold iterL at h
  cases w with
  | dat d =>
    cases d <;> try cases h
    cases r with
    | dat r => cases r with
      | @lst x vs ds q r => exact ⟨_, rfl, ⟨_, SqL.of (s.ex _ _ q)⟩, fun bs ρ' F' N' S' H' gr s' => .inl ⟨vs, _, SqL.of (s'.ex _ _ (gr.ex _ _ q)), (r.isAll).mono gr, fun i => rfl⟩⟩
  | lw ws =>
    cases h
    cases r with
    | lw q r => exact ⟨_, rfl, ⟨_, s.ex.seq q⟩, fun bs ρ' F' N' S' H' gr s' => .inl ⟨_, ws, s'.ex.seq (gr.ex.seq q), r.mono gr, fun i => rfl⟩⟩
  | tw ws => cases h
  | kt ws => cases h
  | loc n =>
    simp only at h
    split at h
    · rename_i us hS
      cases h
      cases r with
      | loc hn =>
        obtain ⟨vs, e, l⟩ := s.cell n _ _ hS hn
        refine ⟨_, rfl, ⟨vs, SqL.of e⟩, fun bs ρ' F' N' S' H' gr s' => ?_⟩
        have hn' := gr.at hn
        cases hc : S'[n]? with
        | none => exact .inr fun i => by show (match S'[n]? with | some (.lst ws) => some ws[i]? | _ => none : Option (Option W)) = none; rw [hc]
        | some c =>
          cases c with
          | lst ws =>
            obtain ⟨vs, e, l⟩ := s'.cell n _ _ hc hn'
            exact .inl ⟨vs, ws, SqL.of e, l, fun i => by show (match S'[n]? with | some (.lst ws) => some ws[i]? | _ => none : Option (Option W)) = _; rw [hc]⟩
          | dic _ => exact .inr fun i => by show (match S'[n]? with | some (.lst ws) => some ws[i]? | _ => none : Option (Option W)) = none; rw [hc]
          | ins _ _ => exact .inr fun i => by show (match S'[n]? with | some (.lst ws) => some ws[i]? | _ => none : Option (Option W)) = none; rw [hc]
          | fz _ => exact .inr fun i => by show (match S'[n]? with | some (.lst ws) => some ws[i]? | _ => none : Option (Option W)) = none; rw [hc]
    · cases h
theorem walk_zip {L : Bool} {x y : Addr} {i1 i2 : Iter} (r1 : RepQ L g ρ F i1 x) (r2 : RepQ L g ρ F i2 y) : WalkOk g (if L then Itz g.K x y else ItzT g.K x y) ρ F (.zip i1 i2) := by
  intro bs ρ' F' N' S' H' i gr s
  show match (match i1.next i S', i2.next i S' with
    | some (some x), some (some y) => some (some (mkTup [x, y]))
    | some none, some _ => some none
    | some _, some none => some none
    | _, _ => none : Option (Option W)) with
    | some (some w) => _
    | some none => _
    | none => True
  rcases r1 bs ρ' F' N' S' H' gr s with ⟨vs, ws, q1, l1, e1⟩ | e1
  · rcases r2 bs ρ' F' N' S' H' gr s with ⟨us, zs, q2, l2, e2⟩ | e2
    · rw [e1 i, e2 i]
      cases hw : ws[i]? with
      | none =>
        have hl : vs.length ≤ i := by rw [l1.len]; exact List.getElem?_eq_none_iff.mp hw
        cases hz : zs[i]? <;> (cases L <;> exact ⟨vs, us, q1, q2, .inl hl⟩)
      | some w =>
        cases hz : zs[i]? with
        | none =>
          have hl : us.length ≤ i := by rw [l2.len]; exact List.getElem?_eq_none_iff.mp hz
          cases L <;> exact ⟨vs, us, q1, q2, .inr hl⟩
        | some z =>
          obtain ⟨v, hv, rv⟩ := l1.get hw
          obtain ⟨u, hu, ru⟩ := l2.get hz
          refine ⟨by cases L <;> exact ⟨vs, us, v, u, q1, q2, hv, hu⟩, fun xv H2 h => ?_⟩
          obtain ⟨T, v', u', rfl, hT, rfl, h1, h2⟩ : ∃ T v' u', xv = .ref T ∧ H' T = none ∧ H2 = upd H' T (.tup [v', u']) ∧ vs[i]? = some v' ∧ us[i]? = some u' := by
            cases L
            · obtain ⟨T, v', u', e1, e2, e3, e4, e5⟩ := h; exact ⟨T, v', u', e1, e2, e3, e4 vs q1, e5 us q2⟩
            · obtain ⟨T, v', u', e1, e2, e3, e4, e5⟩ := h; exact ⟨T, v', u', e1, e2, e3, e4 vs q1, e5 us q2⟩
          rw [hv] at h1; cases h1
          rw [hu] at h2; cases h2
          obtain ⟨s', g'⟩ := s.frozen (o := .tup [v, u]) hT
          exact ⟨_, g', s', is_mkTup upd_same (.cons (rv.mono g') (.cons (ru.mono g') .nil))⟩
    · rw [e1 i, e2 i]; cases ws[i]? <;> trivial
  · rw [e1 i]; trivial
def zipO (S : Store) (x y : W) : Option Iter := match iterT x, iterT y with
  | some i, some j => some (.zip i j)
  | none, none => match iterL S x, iterL S y with
    | some i, some j => some (.zip i j)
    | _, _ => none
  | _, _ => none
def mZip (ms : M (List W)) : M Iter := fun bs env S => (ms bs env S).bind fun ws S1 => match ws with
  | [x, y] => match zipO S1 x y with
    | some it => .ok it S1
    | none => .stuck
  | _ => .stuck
theorem ri_zip (hK : g.K = X.K) (hg : Gl X "zip") (hm : X.mg "zip" = none) (ha : PA X [a, b] (rdA g B ms)) (hs : starEach [a, b] X.env = (false, eval a X.env) :: starEach [b] X.env := by rfl) (hpl : (backTo pos (starEach [b] X.env)).any (·.1) = false := by rfl) :
    PI X (.Tuple elts kk tpos) (.Call (.Name "zip" p) [a, b] [] pos) (rdI g B (mZip ms)) := (pi_zipA hg hm ha hs hpl).imp fun σ H R ⟨bs, ρ, F, N, env, S, s, e, p⟩ => by
  refine ⟨bs, ρ, F, N, env, S, s, e, (Post.iter (R := RWs g) p).imp fun x H1 ⟨ρ1, F1, wx, S1, g1, s1, r1, p1⟩ => ?_⟩
  rw [← hK]
  split at p1
  · rename_i w u
    obtain ⟨v, z, rfl, rv, rz⟩ := all_two r1
    split at p1
    · rename_i it hit
      unfold zipO at hit
      split at hit
      · rename_i i j hi hj
        cases hit
        obtain ⟨x, rfl, ⟨vs, q1⟩, w1⟩ := rep_tup s1 rv hi
        obtain ⟨y, rfl, ⟨us, q2⟩, w2⟩ := rep_tup s1 rz hj
        exact ⟨x, y, vs, us, rfl, .inr ⟨q1, q2, p1 ρ1 F1 H1 _ (Grow.refl _ _) s1 (walk_zip (L := false) w1 w2)⟩⟩
      · split at hit
        · rename_i i j hi hj
          cases hit
          obtain ⟨x, rfl, ⟨vs, q1⟩, w1⟩ := rep_lst s1 rv hi
          obtain ⟨y, rfl, ⟨us, q2⟩, w2⟩ := rep_lst s1 rz hj
          exact ⟨x, y, vs, us, rfl, .inl ⟨q1, q2, p1 ρ1 F1 H1 _ (Grow.refl _ _) s1 (walk_zip (L := true) w1 w2)⟩⟩
        · cases hit
      · cases hit
    · exact p1.elim
  · exact p1.elim

/-! ### locking what a rule has laid -/
theorem upd_upd2 (H : Hp) (a : Addr) (o o' : HO) : upd (upd H a o) a o' = upd H a o' := by
  funext b
  by_cases h : b = a
  · subst h; rw [upd_same, upd_same]
  · rw [upd_ne h, upd_ne h, upd_ne h]
def tLockR (t : TE) : TE := fun σ H Q => t σ H fun v H1 => ∃ d u, v = .ref d ∧ H1 d = some u ∧ Mut (some u) ∧ ∀ od, Q v (upd H1 d (.frz od u))
theorem pe_lockR {t : TE} (h : PE X e t) : PE X e (tLockR t) := ⟨fun pins s σ H Q I hw => thn (h.run pins s σ H _ I hw) fun v s1 ⟨x, H1, I1, r, d, u, ex, hd, mu, q⟩ => by
  obtain ⟨od, I2⟩ := I1.lock hd mu
  exact ⟨x, _, I2, r, q od⟩⟩
def rLockR (r : List V → Hp → VK → Prop) : List V → Hp → VK → Prop := fun xs H Q => r xs H fun v H1 => ∃ d u, v = .ref d ∧ H1 d = some u ∧ Mut (some u) ∧ ∀ od, Q v (upd H1 d (.frz od u))
theorem callR_lockR {c : Value} {r : List V → Hp → VK → Prop} (h : CallR X c r) : CallR X c (rLockR r) := fun pins s σ H xs us Q I rel told => thn (h pins s σ H xs us _ I rel told) fun v s1 ⟨x, H1, I1, r, d, u, ex, hd, mu, q⟩ => by
  obtain ⟨od, I2⟩ := I1.lock hd mu
  exact ⟨x, _, I2, r, q od⟩
/-! ### {} -/
def mDic0 (k : Bool) : M W := fun _ _ S => if k then .ok (.loc S.length) (S ++ [.dic []]) else .ok (.dat (.dict [])) S
theorem re_dic0 {k : Bool} : PE X (.Dict [] [] pos) (rd g B (mDic0 k)) := by
  cases k with
  | true =>
    refine pe_dnewK.imp fun σ H Q ⟨bs, ρ, F, N, env, S, s, e, p⟩ q hq => ?_
    obtain ⟨s', gr⟩ := s.newCell (c := .dic []) (o := .dK []) hq (.inl ⟨[], upd_same, .nil⟩)
    refine p _ _ _ _ gr s' (.loc ?_)
    rw [← s.len]; simp
  | false =>
    refine (pe_lockR pe_dnewK).imp fun σ H Q ⟨bs, ρ, F, N, env, S, s, e, p⟩ q hq => ⟨q, _, rfl, upd_same, True.intro, fun od => ?_⟩
    rw [upd_upd2]
    obtain ⟨s', gr⟩ := s.frozen (o := .frz od (.dK [])) hq
    exact p _ _ _ _ gr s' (.dat (.dicK (kvs := []) upd_same .nil))
end
end Rf

namespace Rf
open PySem L2 PyProof.Rows

/-! ### sorted(d) of a dict whose keys are tuples of ints -/
def keyI (p : List Key × V) : Option (List Int) := p.1.mapM fun k => match k with
  | .inl i => some i
  | .inr _ => none
section
variable {X : Cx}
/-- the keys with the places where they stand -/
abbrev KP := Addr × List Int
def encP (p : KP) : PyData := .tuple (p.2.map .int)
theorem sortable_KP {bs : List KP} (h : ∀ p ∈ bs, p.2 ≠ []) : PySem.W.Sortable (bs.map encP) := .inl fun d hd => by
  obtain ⟨p, hp, rfl⟩ := List.mem_map.mp hd
  cases e : p.2 with
  | nil => exact absurd e (h p hp)
  | cons x r => exact ⟨.int x, r.map .int, by simp [encP, e]⟩
theorem alike_KP {bs : List KP} : PySem.W.AllAlike (bs.map encP) := PySem.W.AllAlike.of fun b b' => by
  show PySem.W.alikeAll (b.2.map .int) (b'.2.map .int) = true
  exact PySem.W.alike_ints _ _
def rSortDT (X : Cx) : List V → Hp → VK → Prop := fun xs H Q => ∃ (d : Addr) (kvs : List (List Key × V)) (ns : List (List Int)), xs = [V.ref d] ∧ Rd H d (.dT kvs) ∧ kvs.map (·.1) = ns.map (fun n => n.map Sum.inl) ∧ (∀ n ∈ ns, n ≠ []) ∧ ns.length ≤ 100000 ∧
  ∀ (bs : List KP) (p : Addr), bs.map (·.2) = ns.mergeSort (fun a b => !PySem.W.dataLt (.tuple (b.map .int)) (.tuple (a.map .int))) → (∀ q ∈ bs, H q.1 = some (.tup (q.2.map V.int))) → H p = none → Q (.ref p) (upd H p (.lst (bs.map fun q => V.ref q.1)))
theorem rc_sortDT (hc : X.calm = true) (hu : X.A.units + 100 < cLine) : CallR X (.builtin "sorted") (rSortDT X) := by
  intro pins s σ H xs us Q I r h
  obtain ⟨d, kvs, ns, rfl, hd, hks, hne, hz, q⟩ := h
  obtain ⟨u, rfl, rx⟩ := r.one
  cases rx
  obtain ⟨z, hs, ks, pr, o, es, ep, ho, hx, hdt, he, hn⟩ := (show ObjOk X.prog X.w H s.heap d (.dT kvs) from hd.ok I.hok)
  have l1 : es.size = ks.length := size_of_entries he
  have l2 : kvs.length = ks.length := Paired.length pr
  have l3 : kvs.length = ns.length := by simpa using congrArg List.length hks
  refine Calls.call_function_entry PyProof.Rows.kind_sorted PyProof.Rows.plain_sorted PyProof.Rows.entry_sorted (PyProof.Rows.args_sorted1 _) ?_
  unfold Builtin.«sorted»
  refine wpAny_bind (m := checkCount "sorted" 1 1 _) (wpAny_pure ?_)
  refine wpAny_bind (PySem.W.kdu_collect (A := X.A.in1) (kdl_raw hs hx hdt) (I.ok.hd hc) ho (by omega) fun h' tk acc kp it => ?_)
  -- the keys collected
  have ea : acc.toList = ks.map fun x => Value.ref x.2.1 := by
    have hl : acc.toList.length = ks.length := by rw [Array.length_toList, it.1]; exact l1
    apply List.ext_getElem?
    intro j
    rw [List.getElem?_map]
    cases hj : acc.toList[j]? with
    | none =>
      rw [List.getElem?_eq_none (by have := List.getElem?_eq_none_iff.mp hj; omega)]
      rfl
    | some v =>
      obtain ⟨en, hen, hv⟩ := it.2 j v (by rw [← Array.getElem?_toList]; exact hj)
      have qe := entry_at he j
      rw [hen] at qe
      cases hb : ks[j]? with
      | none => rw [hb] at qe; cases qe
      | some b =>
        rw [hb] at qe
        cases qe
        rw [hv]; rfl
  -- the keys as places and ints
  obtain ⟨bs, hb1, hb2, hb3⟩ : ∃ bs : List KP, bs.map (·.2) = ns ∧ acc.toList = bs.map (fun q => Value.ref q.1) ∧ ∀ q ∈ bs, H q.1 = some (.tup (q.2.map V.int)) := by
    rw [ea]
    clear ea it kp he hdt hn l1 l2 l3 z hz hne q hd
    induction pr generalizing ns with
    | nil =>
      cases ns with
      | nil => exact ⟨[], rfl, rfl, by simp⟩
      | cons n ns => simp at hks
    | @cons p x ps xs h t ih =>
      cases ns with
      | nil => simp at hks
      | cons n ns =>
        simp only [List.map_cons, List.cons.injEq] at hks
        obtain ⟨bs, e1, e2, e3⟩ := ih ns hks.2
        refine ⟨(x.2.1, n) :: bs, by simp [e1], by simp [e2], fun q hq => ?_⟩
        rcases List.mem_cons.mp hq with z | z
        · subst z
          have := h.2.1
          rw [hks.1] at this
          rw [this, List.map_map]; rfl
        · exact e3 q z
  have hbl : bs.length = ns.length := by rw [← hb1, List.length_map]
  have hal : acc.toList.length = bs.length := by rw [hb2, List.length_map]
  have hzl : acc.toList.length ≤ sizeLine := by rw [hal, hbl]; exact line5 hz
  have I1 : Inv X pins σ H { s with heap := h', toks := tk } := I.kept kp
  refine wpAny_bind (wpAny_newList ?_ hzl)
  have hoL : (h'.push (seqObj "list" acc.toList.toArray 0)).get? h'.objs.size = some (seqObj "list" acc.toList.toArray 0) := Heap.get?_push_size _ rfl
  have er : ∀ q ∈ bs, ∃ as, Reads (h'.push (seqObj "list" acc.toList.toArray 0)) (Value.ref q.1) (encP q) as ∧ h'.objs.size ∉ as := fun q hq => by
    obtain ⟨_, its, rv, o1, ho1, hc1, n1, hd1⟩ := (show ObjOk X.prog X.w H h' q.1 (.tup (q.2.map V.int)) from I1.hok _ _ (hb3 q hq))
    refine ⟨[], .tuple (Heap.get?_push_of_some _ ho1) hc1 hd1 ?_, by simp⟩
    have : ∀ (ns : List Int) (its : List Value), Vals (ns.map V.int) its → ReadsAll (h'.push (seqObj "list" acc.toList.toArray 0)) its (ns.map .int) [] := by
      intro ns
      induction ns with
      | nil => intro its r; cases r; exact .nil
      | cons n ns ih =>
        intro its r
        rw [List.map_cons] at r
        cases r with
        | cons r1 r2 => obtain ⟨t, rfl⟩ := r1; exact .cons (as := []) (bs := []) (.int n t) (ih _ r2)
    simpa using this q.2 its rv
  have eI : PySem.W.EachIs (fun (v : Value) (q : KP) => v = .ref q.1) acc.toList bs := by
    rw [hb2]
    clear hb1 hb2 hb3 hbl hal er
    induction bs with
    | nil => exact .nil
    | cons q bs ih => exact .cons rfl ih
  have eR : PySem.W.EachIs (fun (v : Value) (q : KP) => ∃ as, Reads (h'.push (seqObj "list" acc.toList.toArray 0)) v (encP q) as ∧ h'.objs.size ∉ as) acc.toList bs := by
    rw [hb2] at er ⊢
    clear hb1 hb2 hb3 hbl hal eI
    generalize h'.push (seqObj "list" (List.map (fun q => Value.ref q.1) bs).toArray 0) = hh at er ⊢
    induction bs with
    | nil => exact .nil
    | cons q bs ih => exact .cons (er q (List.mem_cons_self ..)) (ih fun q hq => er q (List.mem_cons_of_mem _ hq))
  have hdep : ∀ q ∈ bs, X.A.in1.units + 1 + (encP q).depth < cLine := fun q _ => by
    have hi1 : X.A.in1.units = X.A.units + 1 := rfl
    have : (encP q).depth = 1 := by
      show PyData.depth (.tuple (q.2.map .int)) = 1
      have hd := PySem.W.depth_ints q.2
      simp only [PyData.depth, hd]
    rw [this, hi1]; omega
  show wpAny _ _ _ _ _ { s with heap := h'.push (seqObj "list" acc.toList.toArray 0), toks := tk }
  refine wpAny_bind (wpAny_holding (PySem.W.list_sort_data (s := { s with heap := h'.push (seqObj "list" acc.toList.toArray 0), toks := tk }) (a := h'.objs.size) (R := fun (v : Value) (q : KP) => v = .ref q.1) (enc := encP) hoL eI eR alike_KP (sortable_KP fun q hq => hne _ (by rw [← hb1]; exact List.mem_map_of_mem hq)) (by rw [hbl]; exact line5 hz) hdep fun out hlo eo => ?_))
  -- the sorted list as a thing of the heap
  generalize hbs' : bs.mergeSort (PySem.W.dataLe false encP) = bs' at eo
  have hperm : bs'.Perm bs := by rw [← hbs']; exact List.mergeSort_perm ..
  have hout : out = bs'.map fun q => Value.ref q.1 := by
    clear hbs' hperm hlo
    induction eo with
    | nil => rfl
    | cons h _ ih => rw [h, ih]; rfl
  have hord : bs'.map (·.2) = ns.mergeSort (fun a b => !PySem.W.dataLt (.tuple (b.map .int)) (.tuple (a.map .int))) := by
    rw [← hbs', ← hb1]
    exact List.map_mergeSort fun a _ b _ => rfl
  obtain ⟨c', hc'⟩ := PyProof.Rows.sortedHeap_at (vs := acc.toList) (out := out.toArray) hoL
  have rv : Vals (bs'.map fun q => V.ref q.1) out := by
    rw [hout]
    have := vals_refs (bs'.map (·.1))
    rw [List.map_map, List.map_map] at this
    exact this
  have hlen : (bs'.map fun q => V.ref q.1).length ≤ sizeLine := by
    rw [List.length_map, hperm.length_eq, hbl]; exact line5 hz
  refine wpAny_pure ⟨_, rfl, .ref h'.objs.size, upd H h'.objs.size (.lst (bs'.map fun q => V.ref q.1)), I1.laid (t' := tk) (fun b u e => ?_) (Nat.le_refl _) ?_, rfl, q bs' _ hord (fun x hx => hb3 x (hperm.mem_iff.mp hx)) (I1.hok.fresh (Nat.le_refl _))⟩
  · have hlt := Heap.lt_size e
    have : b ≠ h'.objs.size := Nat.ne_of_lt hlt
    rw [PyProof.Rows.sortedHeap_old this (by rw [Heap.size_push]; exact Nat.lt_succ_of_lt hlt)]
    exact Heap.get?_push_of_some _ e
  · exact ⟨hlen, out, c', rv, hc'⟩
end
end Rf

namespace Rf
open PySem L2 PyProof.Rows

/-! ### tuples of the heap that come to be known -/
section
variable {X : Cx} {g : Gx} {B : WX} {bs : List Nat} {ρ : List Addr} {F N H : Hp} {S : Store}
theorem Sim.absorb {a : Addr} {xs : List V} (s : Sim g bs ρ F N S H) (h : H a = some (.tup xs)) : ∃ F', Grow ρ F ρ F' ∧ Sim g bs ρ F' N S H ∧ F' a = some (.tup xs) := by
  cases hF : F a with
  | some o =>
    have := s.ex a o hF
    rw [h] at this; cases this
    exact ⟨F, Grow.refl _ _, s, hF⟩
  | none =>
    have gr : Grow ρ F ρ (upd F a (.tup xs)) := ⟨⟨[], by simp⟩, same_new hF⟩
    have nr : a ∉ ρ := fun ha => by
      obtain ⟨n, hn, e⟩ := List.mem_iff_getElem.mp ha
      have hl : n < S.length := by rw [← s.len]; exact hn
      have c := s.cell n S[n] a (by simp [hl]) (by rw [List.getElem?_eq_getElem hn, e])
      cases hc : S[n] with
      | lst ws => rw [hc] at c; obtain ⟨_, q, _⟩ := c; rw [h] at q; cases q
      | dic ws => rw [hc] at c; rcases c with ⟨_, q, _⟩ | ⟨_, q, _⟩ <;> (rw [h] at q; cases q)
      | ins k fs => rw [hc] at c; obtain ⟨_, _, q, _⟩ := c; rw [h] at q; cases q
      | fz ws => rw [hc] at c; rcases c with ⟨_, _, q, _⟩ | ⟨_, _, q, _⟩ <;> (rw [h] at q; cases q)
    refine ⟨_, gr, ⟨s.len, s.nd, fun b u e => ?_, fun n c b e1 e2 e3 => ?_, fun n c b e1 e2 => (s.cell n c b e1 e2).mono gr rfl, s.hid, fun b u e => ⟨?_, (s.nf b u e).2⟩, s.nl, s.bot, s.tab, nt_upd s.nt fun _ z => nomatch z⟩, upd_same⟩
    · by_cases z : b = a
      · subst z; rw [upd_same] at e; cases e; exact h
      · rw [upd_ne z] at e; exact s.ex b u e
    · rw [upd_ne (ne_mem (List.mem_of_getElem? e2) nr)]; exact s.fr n c b e1 e2 e3
    · have z : b ≠ a := fun z => by
        subst z
        have mu := s.nl b u e
        have := s.hid b _ e
        rw [h] at this; cases this
        exact mu
      rw [upd_ne z]; exact (s.nf b u e).1
theorem rp_intsT {K : PySem.W.Frag} {a : Addr} {ns : List Int} (h : F a = some (.tup (ns.map V.int))) : Rp K F (.ref a) (.tuple (ns.map .int)) := by
  refine .tup h ?_
  clear h
  induction ns with
  | nil => exact .nil
  | cons n ns ih => exact .cons (.int n) ih
/-- several of them -/
theorem Sim.absorbAll : ∀ {ps : List KP} {F : Hp}, Sim g bs ρ F N S H → (∀ q ∈ ps, H q.1 = some (.tup (q.2.map V.int))) → ∃ F', Grow ρ F ρ F' ∧ Sim g bs ρ F' N S H ∧ IsAll g.K ρ F' (ps.map fun q => V.ref q.1) (ps.map fun q => .dat (.tuple (q.2.map .int)))
  | [], F, s, _ => ⟨F, Grow.refl _ _, s, .nil⟩
  | p :: ps, F, s, h => by
    obtain ⟨F1, g1, s1, e1⟩ := s.absorb (h p (List.mem_cons_self ..))
    obtain ⟨F2, g2, s2, l2⟩ := Sim.absorbAll (ps := ps) s1 fun q hq => h q (List.mem_cons_of_mem _ hq)
    exact ⟨F2, g1.trans g2, s2, .cons (.dat ((rp_intsT e1).mono g2.ex)) l2⟩
/-- the keys as rows of ints, none of them empty -/
def keyRow : PyData → Option (List Int)
  | .tuple ds => match intsD ds with
    | some ns => if ns.isEmpty then none else some ns
    | none => none
  | _ => none
def keyRows : List (PyData × W) → Option (List (List Int))
  | [] => some []
  | p :: ps => match keyRow p.1, keyRows ps with
    | some n, some ns => some (n :: ns)
    | _, _ => none
def rowLe (a b : List Int) : Bool := !PySem.W.dataLt (.tuple (b.map .int)) (.tuple (a.map .int))
/-- sorted(d) -/
def sortDW (k : Bool) (w : W) (S : Store) : Option (W × Store) := match dicOf S w with
  | some ws => match keyRows ws with
    | some ns => if ns.length ≤ 100000 ∧ (isDicC S w || !ws.isEmpty) = true then some (newL k ((ns.mergeSort rowLe).map fun n => .dat (.tuple (n.map .int))) S) else none
    | none => none
  | none => none
theorem keyRow_eq {d : PyData} {ns : List Int} (h : keyRow d = some ns) : d = .tuple (ns.map .int) ∧ ns ≠ [] := by
  unfold keyRow at h
  split at h
  · split at h
    · rename_i ds ns' hi
      split at h
      · cases h
      · rename_i he
        cases h
        exact ⟨by rw [intsD_eq hi], fun z => he (by rw [z]; rfl)⟩
    · cases h
  · cases h
theorem kD_ints {ks : List Key} {ns : List Int} (h : ks.map kD = ns.map PyData.int) : ks = ns.map Sum.inl := by
  induction ks generalizing ns with
  | nil =>
    cases ns with
    | nil => rfl
    | cons n ns => simp at h
  | cons k ks ih =>
    cases ns with
    | nil => simp at h
    | cons n ns =>
      simp only [List.map_cons, List.cons.injEq] at h
      rw [List.map_cons, ih h.2]
      cases k with
      | inl i => have := h.1; simp [kD] at this; rw [this]
      | inr x => have := h.1; simp [kD] at this
theorem keyRows_kvs {K : PySem.W.Frag} : ∀ {kvs : List (List Key × V)} {ws : List (PyData × W)} {ns : List (List Int)}, IsKV K ρ F (kvs.map fun p => (.tuple (p.1.map kD), p.2)) ws → keyRows ws = some ns →
    kvs.map (·.1) = ns.map (fun n => n.map Sum.inl) ∧ ∀ n ∈ ns, n ≠ []
  | [], ws, ns, h, e => by
    cases h
    simp [keyRows] at e; subst e
    exact ⟨rfl, by simp⟩
  | p :: kvs, ws, ns, h, e => by
    cases h with
    | @cons _ _ _ w ws r t =>
      simp only [keyRows] at e
      split at e
      · rename_i n ns' h1 h2
        cases e
        obtain ⟨e1, e2⟩ := keyRows_kvs t h2
        obtain ⟨e3, e4⟩ := keyRow_eq h1
        injection e3 with e3
        refine ⟨by rw [List.map_cons, List.map_cons, e1, kD_ints e3], fun m hm => ?_⟩
        rcases List.mem_cons.mp hm with z | z
        · rw [z]; exact e4
        · exact e2 m z
      · cases e
theorem keyRows_kind : ∀ {ws : List (PyData × W)} {ns : List (List Int)}, keyRows ws = some ns → (ws.all fun p => (dkey p.1).any fun k' => kindK k' == kindK (.tup [])) = true
  | [], _, _ => rfl
  | p :: ws, ns, e => by
    simp only [keyRows] at e
    split at e
    · rename_i n ns' h1 h2
      rw [List.all_cons, keyRows_kind h2, Bool.and_true]
      obtain ⟨e3, _⟩ := keyRow_eq h1
      have : p.1 = (DKey.tup (n.map Sum.inl)).d := by rw [e3]; simp [DKey.d, kD, List.map_map, Function.comp_def]
      rw [this, dkey_d]; rfl
    · cases e
def sortDF (k : Bool) : OpN := fun _ ws S => match ws with
  | [w] => sortDW k w S
  | _ => none
theorem rc_sortD (hK : g.K = X.K) (hc : X.calm = true) (hu : X.A.units + 100 < cLine) {k : Bool} : CallR X (.builtin "sorted") (rdN g (sortDF k)) := by
  intro pins sh σ H xs us Q I rx ⟨bs, ρ, F, N, S, ws, s, l, p⟩
  unfold sortDF at p
  split at p
  · rename_i w
    obtain ⟨v, rfl, r⟩ := all_one l
    unfold sortDW at p
    split at p
    · rename_i kvs hd
      split at p
      · rename_i ns hns
        split at p
        · rename_i hz
          obtain ⟨H', I', s', a, vs, rfl, dh, q⟩ := dic_ready (k := .tup []) I s r hd (by unfold dicRdy; rw [keyRows_kind hns, hz.2]; rfl)
          cases dh with
          | @t kvs' e =>
            obtain ⟨e1, e2⟩ := keyRows_kvs q hns
            refine rc_sortDT hc hu pins sh σ H' _ us Q I' rx ⟨a, kvs', ns, rfl, e, e1, e2, hz.1, fun ps x h1 h2 h3 => ?_⟩
            obtain ⟨F2, g2, s2, l2⟩ := s'.absorbAll h2
            refine new_ok s2 h3 ?_ fun ρ' F' H2 v2 gr s3 r3 => p ρ' F' H2 v2 (g2.trans gr) s3 r3
            have : (ps.map fun q => W.dat (.tuple (q.2.map .int))) = (ns.mergeSort rowLe).map fun n => W.dat (.tuple (n.map .int)) := by
              have h1' : ps.map (·.2) = ns.mergeSort rowLe := h1
              rw [← h1', List.map_map]; rfl
            rw [← this]; exact l2
        · exact p.elim
      · exact p.elim
    · exact p.elim
  · exact p.elim
end
end Rf

namespace Rf
open PySem L2 PyProof.Rows

/-! ### xs[::-1] -/
theorem fm_congr {α β : Type} {f g : α → Option β} : ∀ {l : List α}, (∀ a ∈ l, f a = g a) → l.filterMap f = l.filterMap g
  | [], _ => rfl
  | a :: l, h => by rw [List.filterMap_cons, List.filterMap_cons, h a (List.mem_cons_self ..), fm_congr fun b hb => h b (List.mem_cons_of_mem _ hb)]
theorem pick_back (xs : Array Value) : ((List.range xs.size).filterMap fun (m : Nat) => xs[(((xs.size : Int) - 1) + (m : Int) * (-1)).toNat]?).toArray = xs.toList.reverse.toArray := by
  have e : ∀ m, m < xs.size → xs[(((xs.size : Int) - 1) + (m : Int) * (-1)).toNat]? = xs.toList.reverse[m]? := fun m hm => by
    have z : (((xs.size : Int) - 1) + (m : Int) * (-1)).toNat = xs.size - 1 - m := by omega
    rw [z, List.getElem?_reverse (by simpa using hm)]
    simp
  have : (List.range xs.size).filterMap (fun (m : Nat) => xs[(((xs.size : Int) - 1) + (m : Int) * (-1)).toNat]?) = (List.range xs.size).filterMap fun m => xs.toList.reverse[m]? := fm_congr fun m hm => e m (List.mem_range.mp hm)
  rw [this]
  congr 1
  have hl : xs.size = xs.toList.reverse.length := by simp
  rw [hl]
  generalize xs.toList.reverse = l
  induction l with
  | nil => rfl
  | cons a l ih => simp [List.range_succ_eq_map, List.filterMap_cons, List.filterMap_map, Function.comp_def, ih]
section
variable {prog : Program} {w : World} {A : Around} {E : Value → Shared → Prop} {s : Shared}
theorem applied_back {sl : Addr} {t : Tok} {n : Nat} {Q : Int × Int × Nat → Shared → Prop} (hs : s.heap.IsSliceOf sl .none .none (.int (-1) t)) (h : Q ((n : Int) - 1, -1, n) s) : wpAny (model prog w) A (Builtin.Slice.sliceApplied (.ref sl) (pure (n : Int))) Q E s := by
  obtain ⟨os, ho, hc, hd⟩ := id hs
  unfold Builtin.Slice.sliceApplied Builtin.Slice.sliceFields
  refine wpAny_bind (wpAny_bind (wpAny_field ho hd (x := .none) rfl (wpAny_bind (wpAny_field ho hd (x := .none) rfl (wpAny_bind (wpAny_field ho hd (x := .int (-1) t) rfl (wpAny_pure ?_)))))))
  refine wpAny_bind (HT.slicePart_ (.int (-1) t) ?_)
  show wpAny _ _ (if ((-1 : Int) == 0) = true then _ else _) _ _ s
  rw [if_neg (by decide)]
  refine wpAny_bind (slicePart_none (wpAny_bind (slicePart_none (wpAny_bind (wpAny_pure ?_)))))
  show wpAny _ _ (match Builtin.Slice.sliceAdjust none none (-1) (n : Int) with | (lo, hi) => pure (lo, (-1 : Int), Builtin.Slice.slicePlaces lo hi (-1))) _ _ s
  have e1 : Builtin.Slice.sliceAdjust none none (-1) (n : Int) = ((n : Int) - 1, -1) := by
    unfold Builtin.Slice.sliceAdjust; simp
  have e2 : Builtin.Slice.slicePlaces ((n : Int) - 1) (-1) (-1) = n := by
    unfold Builtin.Slice.slicePlaces
    simp
    omega
  rw [e1]
  show wpAny _ _ (pure ((n : Int) - 1, (-1 : Int), Builtin.Slice.slicePlaces ((n : Int) - 1) (-1) (-1))) _ _ s
  rw [e2]
  exact wpAny_pure h
theorem tuple_back {t sl : Addr} {items : Array Value} {k : Tok} {Q : Value → Shared → Prop} (ht : IsTup s.heap t items) (hs : s.heap.IsSliceOf sl .none .none (.int (-1) k))
    (h : Q (.ref s.heap.objs.size) { s with heap := s.heap.push { cls := .type "tuple", data := .seq items.toList.reverse.toArray } }) (hz : items.size ≤ sizeLine) : wpAny (model prog w) A (getItem (.ref t) (.ref sl)) Q E s := by
  have hok : sizeOk (.seq items.toList.reverse.toArray) := by
    show items.toList.reverse.toArray.size ≤ sizeLine
    simpa using hz
  obtain ⟨os, ho, hc, hd⟩ := id hs
  have hT : s.TypeIs (.ref sl) "slice" := ⟨os, ho, hc⟩
  unfold getItem
  refine wpAny_holding (wpAny_bind (wpAny_sequenceKey ht.typeIs (by decide) ?_))
  refine wpAny_bind (wpAny_callSpecial?_slot (name := Str.ofString "__getitem__") ht.typeIs PyProof.Rows.slot_tuple_getitem (wpAny_call_entry PyProof.Rows.slot_tuple_getitem ht.typeIs entry_tuple_getitem ?_ (args_tuple_getitem _ _)))
  show wpAny _ _ (Builtin.Tuple.tupleItemsOf (.ref t) >>= _) _ _ s
  refine wpAny_bind (tupleItemsOf_ ht (wpAny_bind (wpAny_typeOf hT ?_)))
  rw [if_pos (by decide)]
  refine wpAny_bind (applied_back (n := items.size) hs ?_)
  have hno : ¬ ((((items.size : Int) - 1) == 0 && (-1 : Int) == 1 && items.size == items.size) = true) := by simp
  show wpAny _ _ (if ((((items.size : Int) - 1) == 0 && (-1 : Int) == 1 && items.size == items.size) = true) then _ else _) _ _ s
  rw [if_neg hno, pick_back]
  exact wpAny_bind (m := Builtin.Tuple.tupleExact _) (wpAny_newObj_type (wpAny_pure ⟨_, rfl, wpAny_pure h⟩) hok)
end
section
variable {X : Cx} {g : Gx} {B : WX} {e : Expr} {te : TE} {ma : M W} {i : Nat} {p1 p2 p3 pos : Pos}
theorem pe_back (he : PE X e te) : PE X (.Subscript e (.Slice none none (some (.UnaryOp .USub (.Constant (.int 1) i p1) p2)) p3) pos) (fun σ H Q => te σ H fun x H1 => ∃ a xs, x = .ref a ∧
    ((SqL X.K H1 a xs ∧ ∀ p, H1 p = none → Q (.ref p) (upd H1 p (.lst xs.reverse))) ∨ (SqT X.K H1 a xs ∧ ∀ p, H1 p = none → Q (.ref p) (upd H1 p (.tup xs.reverse))))) := by
  refine ⟨fun pins s σ H Q I h => Subscript_ (thn (he.run pins s σ H _ I h) fun v s1 ⟨x, H1, I1, r1, a, xs, ex, q⟩ => ?_)⟩
  subst ex
  cases r1
  have neg1 : PO X (some (.UnaryOp .USub (.Constant (.int 1) i p1) p2)) (tPart (tUn (rU fun j => .int (-j)) (tC (.int 1)))) := po_some (pe_un un_neg pe_int)
  refine wpAny_Slice ?_
  rw [evalPart_none]
  refine wpAny_pure (wpAny_pure ?_)
  refine thn (neg1.run pins s1 σ H1 (fun o H4 => o = some (-1) ∧ H4 = H1) I1 ⟨1, rfl, -1, rfl, rfl, rfl⟩) fun vs s4 ⟨o, H4, I4, ps, eo, e4⟩ => ?_
  subst eo e4
  cases ps with
  | int _ tk =>
    have hsl : ({ s4 with heap := s4.heap.push { cls := .type "slice", data := .fields #[.none, .none, .int (-1) tk] } } : Shared).heap.IsSliceOf s4.heap.objs.size .none .none (.int (-1) tk) := Heap.IsSliceOf.new ..
    have I5 : Inv X pins σ H4 { s4 with heap := s4.heap.push { cls := .type "slice", data := .fields #[.none, .none, .int (-1) tk] } } := I4.kept (t' := s4.toks) fun _ _ z => Heap.get?_push_of_some _ z
    generalize hs5 : ({ s4 with heap := s4.heap.push { cls := .type "slice", data := .fields #[.none, .none, .int (-1) tk] } } : Shared) = s5 at hsl I5
    rcases q with ⟨hx, q⟩ | ⟨hx, q⟩
    · obtain ⟨its, r, ht, hz⟩ := I5.list hx
      have hl := r.length
      refine tail_any (ops := [.ref a, .ref s4.heap.objs.size]) ht.isList.typeIs (PySem.slot_list_getitem.lookup) ?_ (by with_unfolding_all rfl)
      refine wpAny_getItem_list_slice ht.isList hsl (.none) (.none) (.int (-1) tk) (by decide) ?_ (by rw [List.size_toArray]; omega)
      rw [PySem.W.krv_pick]
      exact ⟨.ref _, _, I5.laid (t' := s5.toks) (o := .lst xs.reverse) (fun _ _ z => Heap.get?_push_of_some _ z) (Nat.le_refl _) ⟨by rw [List.length_reverse]; exact hz, _, 0, r.reverse, Heap.get?_push_size _ rfl⟩, rfl, q _ (I5.hok.fresh (Nat.le_refl _))⟩
    · obtain ⟨its, r, ht, hz⟩ := I5.tuple hx
      have hl := r.length
      refine tail_any (ops := [.ref a, .ref s4.heap.objs.size]) ht.typeIs (PyProof.Rows.slot_tuple_getitem.lookup) ?_ (by with_unfolding_all rfl)
      refine tuple_back ht hsl ?_ (by rw [List.size_toArray]; omega)
      exact ⟨.ref _, _, I5.laid (t' := s5.toks) (o := .tup xs.reverse) (fun _ _ z => Heap.get?_push_of_some _ z) (Nat.le_refl _) ⟨by rw [List.length_reverse]; exact hz, _, r.reverse, IsTup.new _ _⟩, rfl, q _ (I5.hok.fresh (Nat.le_refl _))⟩
def mBack (k : Bool) (m : M W) : M W := fun bs env S => (m bs env S).bind fun w S1 => match tupOf w with
  | some ws => .ok (mkTup ws.reverse) S1
  | none => match lstOf S1 w with
    | some ws => .ok (newL k ws.reverse S1).1 (newL k ws.reverse S1).2
    | none => .stuck
theorem re_back (hK : g.K = X.K) {k : Bool} (he : PE X e (rd g B ma)) : PE X (.Subscript e (.Slice none none (some (.UnaryOp .USub (.Constant (.int 1) i p1) p2)) p3) pos) (rd g B (mBack k ma)) := (pe_back he).imp fun σ H Q ⟨bs, ρ, F, N, env, S, s, e, p⟩ => by
  refine ⟨bs, ρ, F, N, env, S, s, e, (Post.bind (R1 := RW g) p).imp fun x H1 ⟨ρ1, F1, wx, S1, g1, s1, r1, p1⟩ => ?_⟩
  split at p1
  · rename_i ws hw
    obtain ⟨a, vs, rfl, q, l⟩ := tup_of r1 hw
    rw [hK] at q
    exact ⟨a, vs, rfl, .inr ⟨Same.sqT s1.ex q, fun q hq => newT_ok s1 hq l.rev p1⟩⟩
  · split at p1
    · rename_i ws hw
      obtain ⟨a, vs, rfl, q, l⟩ := lst_of s1 r1 hw
      rw [hK] at q
      exact ⟨a, vs, rfl, .inl ⟨q, fun q hq => new_ok s1 hq l.rev p1⟩⟩
    · exact p1.elim
end
end Rf

namespace Rf
open PySem PySem.Spec L2 PyProof.Rows

/-! ### tuples of which all is known -/
section
variable {X : Cx} {g : Gx} {B : WX}
theorem call_tupK : CallR X (.type "tuple") (fun xs H Q => ∃ p ys, xs = [.ref p] ∧ SqL X.K H p ys ∧ ∀ l o, H l = none → o.cls = .type "tuple" → o.dict = none → Q (.ref l) (upd H l (.frz o (.tup ys)))) := by
  intro pins s σ H xs us Q inv rel told
  obtain ⟨p, ys, rfl, sq, fin⟩ := told
  obtain ⟨u, rfl, ru⟩ := vals1 rel
  cases ru
  obtain ⟨its, items, plain, most⟩ := inv.list sq
  have many := items.length
  refine call_tuple_list plain.isList (fun h' keeps => ?_) (by rw [List.size_toArray]; omega)
  have inv1 : Inv X pins σ H { s with heap := h' } := inv.kept (t' := s.toks) keeps
  have lies : (h'.push { cls := .type "tuple", data := .seq its.toArray }).get? h'.objs.size = some { cls := .type "tuple", data := .seq its.toArray } := Heap.get?_push_size _ rfl
  have inv2 := inv1.laid (a := h'.objs.size) (o := .frz { cls := .type "tuple", data := .seq its.toArray } (.tup ys)) (t' := s.toks) (h' := h'.push { cls := .type "tuple", data := .seq its.toArray })
    (fun b o e => Heap.get?_push_of_some _ e) (Nat.le_refl _) ⟨lies, most, its, items, IsTup.new _ _⟩
  exact ⟨.ref h'.objs.size, _, inv2, rfl, fin _ _ (inv1.hok.fresh (Nat.le_refl _)) rfl rfl⟩
def tupleKF : OpN := fun _ ws S => match ws with
  | [w] => match lstOf S w with
    | some xs => (allDat xs).map fun ds => (.kt ds, S)
    | none => none
  | _ => none
theorem rc_tupleK (hK : g.K = X.K) : CallR X (.type "tuple") (rdN g tupleKF) := by
  intro pins s σ H xs us Q inv rel ⟨bs, ρ, F, N, S, ws, sim, l, p⟩
  unfold tupleKF at p
  split at p
  · rename_i w
    obtain ⟨v, rfl, r2⟩ := all_one l
    cases h1 : lstOf S w with
    | none => rw [h1] at p; exact p.elim
    | some xs =>
      simp only [h1] at p
      cases h2 : allDat xs with
      | none => rw [h2] at p; exact p.elim
      | some ds =>
        rw [h2] at p
        obtain ⟨a, vs, rfl, q1, l1⟩ := lst_of sim r2 h1
        rw [hK] at q1
        refine call_tupK pins s σ H _ us Q inv rel ⟨a, vs, rfl, q1, fun q o hq hc hd => ?_⟩
        obtain ⟨sim', gr⟩ := sim.frozen (o := .frz o (.tup vs)) hq
        exact p _ _ _ _ gr sim' (.kt upd_same hc hd ((l1.dats h2).mono gr.ex))
  · exact p.elim
def tyKT (x : V) (H : Hp) : Prop := ∃ a o vs, x = .ref a ∧ H a = some (.frz o (.tup vs)) ∧ o.cls = .type "tuple" ∧ o.dict = none
theorem ty_kt : TyOk X "tuple" tyKT := by
  intro pins σ H s x v inv rel ty
  obtain ⟨a, o, vs, rfl, e, hc, hd⟩ := ty
  cases rel
  obtain ⟨get, _⟩ := (show ObjOk X.prog X.w H s.heap a (.frz o (.tup vs)) from inv.hok a _ e)
  refine ⟨⟨_, get, hc⟩, fun b z => ?_⟩
  cases z
  exact ⟨_, get, hd⟩
def idxF : OpM := fun _ x ws S => match x, ws with
  | .kt ds, [w] => match viewD S w with
    | some d => if d.plain = true ∧ PyData.plainAll ds = true ∧ SeqAt.shaped (.tuple ds) = true ∧ SeqAt.shaped d = true then (ds.findIdx? fun z => PyData.eqv z d).map fun j => (.int (j : Nat), S) else none
    | none => none
  | _, _ => none
theorem mt_idx (hK : g.K = X.K) (hu : X.A.units + 100 < cLine) : MtR X "tuple.index" (rdMt g idxF) := by
  intro pins s σ H x xs v us Q inv rx rxs ⟨bs, ρ, F, N, S, wx, ws, sim, r1, l, p⟩
  unfold idxF at p
  split at p
  · rename_i ds w
    cases hv : viewD S w with
    | none => rw [hv] at p; exact p.elim
    | some d =>
      simp only [hv] at p
      split at p
      · rename_i ok
        obtain ⟨pd, pds, sds, sd⟩ := ok
        cases hj : ds.findIdx? (fun z => PyData.eqv z d) with
        | none => rw [hj] at p; exact p.elim
        | some j =>
          rw [hj] at p
          obtain ⟨y, rfl, ry⟩ := all_one l
          obtain ⟨u, rfl, ru⟩ := vals1 rxs
          have dp : Dp X.K H y d := hK ▸ view_dp sim ry hv pd
          obtain ⟨bs', read⟩ := Dp.reads inv d y u dp ru
          cases r1 with
          | kt at_ hc hd rp =>
            rename_i a vs o
            cases rx
            have look := sim.ex _ _ at_
            obtain ⟨its, rv, ⟨o', get, hc', n, hdat⟩, many⟩ := inv.tuple (.inl (.inr ⟨o, look⟩) : SqT X.K H a vs)
            obtain ⟨get2, _⟩ := (show ObjOk X.prog X.w H s.heap a (.frz o (.tup vs)) from inv.hok a _ look)
            obtain ⟨as, reads⟩ := Dp.readsAll inv ds _ its (hK ▸ RpAll.dp sim.ex pds rp) rv
            have can : PyData.canLayAll0 ds = true := by simpa [PyData.canLay0] using SeqAt.canLay_of_shaped sds
            have hn : its.length = ds.length := SeqAt.ReadsAll.length ds its as reads
            have hmap : its.map (SeqAt.readOf s.heap) = ds := SeqAt.readsAll_map ds its as can reads
            obtain ⟨hjl, hje, hjn⟩ := List.findIdx?_eq_some_iff_getElem.mp hj
            have item : ∀ (m : Nat) (hm : m < its.toArray.size), SeqAt.readOf s.heap its.toArray[m] = ds[m]'(by simpa [hn] using hm) := fun m hm => by
              have hm' : m < its.length := by simpa using hm
              have e2 : (its.map (SeqAt.readOf s.heap))[m]? = ds[m]? := by rw [hmap]
              rw [List.getElem?_map, List.getElem?_eq_getElem hm', List.getElem?_eq_getElem (by omega)] at e2
              have e3 : SeqAt.readOf s.heap its[m] = ds[m] := Option.some.inj e2
              simpa using e3
            have depth : X.A.units + 1 + min (PyData.depthAll ds) d.depth < cLine := by
              have := SeqAt.depth_of_shaped sd
              omega
            obtain ⟨ocls, odict, odata, oslots⟩ := o'
            simp only at hc' hdat
            subst hc' hdat
            refine call_meets PySem.F.slot_tuple_index ⟨_, get, rfl⟩ PySem.F.entry_tuple_index (PySem.F.args_tuple_index_2 _ _)
              (TI.tuple_indexAt a its.toArray n odict oslots u (fun z => PyData.eqv (SeqAt.readOf s.heap z) d) j (by simpa [hn] using hjl) ?_ ?_)
              ⟨get, SeqAt.items_eqAt (vs := its.toArray) (show ReadsAll s.heap its.toArray.toList ds as from reads) read can (SeqAt.canLay_of_shaped sd) depth, ⟨.int (j : Nat), H, inv.tok _, ⟨_, rfl⟩, p ρ F H _ (Grow.refl _ _) sim (.dat (.int _))⟩⟩
            · rw [item]; exact hje
            · intro m hm hmj
              rw [item]
              simpa using hjn m hmj
      · exact p.elim
  · exact p.elim
def isKt : W → Bool
  | .kt _ => true
  | _ => false
def mMtK (f : OpM) (mo : M W) (ms : M (List W)) : M W := fun bs env S => (mo bs env S).bind fun w S1 => if isKt w = true then (ms bs env S1).bind fun ws S2 => match f bs w ws S2 with
  | some (r, S3) => .ok r S3
  | none => .stuck
  else .stuck
theorem re_mtK {f : OpM} {id : String} {name : Str} {o e : Expr} {es : List Expr} {mo : M W} {ms : M (List W)} {apos cpos : Pos} (hK : g.K = X.K) (pa : PlainAttrs "tuple") (slot : Slot "tuple" name id) (hty : typeOf (.builtin id) = pure (.type "method_descriptor")) (hm : MtR X id (rdMt g f)) (ho : PE X o (rd g B mo)) (ha : PA X (e :: es) (rdA g B ms))
    (hbase : attributeBase o name X.env (eval o X.env) = eval o X.env := by rfl)
    (hfew : ((backTo cpos (starEach (e :: es) X.env)).all (fun x => !x.1) && (backToKw cpos (keywordEach [] X.env)).all (fun x => x.1.isSome) && decide ((e :: es).length + ([] : List Keyword).length + (if ([] : List Keyword).isEmpty then 0 else 1) < 30)) = true := by rfl)
    (hline : (apos.endLine == cpos.line) = true := by rfl) (hs : starEach (e :: es) X.env = (false, eval e X.env) :: starEach es X.env := by rfl) (hplain : (backTo cpos (starEach es X.env)).any (·.1) = false := by rfl) :
    PE X (.Call (.Attribute o name apos) (e :: es) [] cpos) (rd g B (mMtK f mo ms)) := (pe_mG (ty := tyKT) ty_kt pa slot hty hm ho ha hbase hfew hline hs hplain).imp fun σ H Q ⟨bs, ρ, F, N, env, S, s, e, p⟩ => by
  refine ⟨bs, ρ, F, N, env, S, s, e, (Post.bind (R1 := RW g) p).imp fun x H1 ⟨ρ1, F1, wx, S1, g1, s1, r1, p1⟩ => ?_⟩
  split at p1
  · rename_i hw
    refine ⟨?_, bs, ρ1, F1, N, env, S1, s1, e.mono g1, (Post.bind (R1 := RWs g) p1).imp fun xs H2 ⟨ρ2, F2, ws, S2, g2, s2, r2, p2⟩ => ?_⟩
    · cases wx <;> try cases hw
      cases r1 with
      | kt q c d _ => exact ⟨_, _, _, rfl, s1.ex _ _ q, c, d⟩
    · exact ⟨bs, ρ2, F2, N, S2, wx, ws, s2, r1.mono g2, r2, post_op p2⟩
  · exact p1.elim
end
end Rf

namespace Rf
open PySem PySem.Spec L2 PyProof.Rows

/-! ### dict(t), t a tuple of pairs of which all is known -/
def PrOf (K : PySem.W.Frag) (H : Hp) : List V → List (List Key × V) → Prop := Paired fun v kv => ∃ b p, v = .ref p ∧ SqT K H p [.ref b, kv.2] ∧ H b = some (.tup (kv.1.map kV))
section
variable {X : Cx} {g : Gx} {B : WX}
theorem pr_raw {pins : List (Addr × Obj)} {σ : L2.St} {H : Hp} {s : Shared} (inv : Inv X pins σ H s) : ∀ {vs : List V} {kvs : List (List Key × V)} {its : List Value}, PrOf X.K H vs kvs → Vals vs its →
    ∃ (ts : List Addr) (xs : List (List Key × Addr × Value)), its = ts.map Value.ref ∧ ts.length = xs.length ∧ KT H kvs xs ∧ ∀ (j : Nat) (x : List Key × Addr × Value), xs[j]? = some x → ∃ t, ts[j]? = some t ∧ s.heap.IsTuple t #[.ref x.2.1, x.2.2]
  | _, _, _, .nil, .nil => ⟨[], [], rfl, rfl, .nil, fun j x z => by simp at z⟩
  | _, _, _, .cons (b := kv) h t, .cons r rs => by
    obtain ⟨ts, xs, rfl, hl, kt, at_⟩ := pr_raw inv t rs
    obtain ⟨b, p, rfl, sq, hb⟩ := h
    obtain ⟨two, rv, lies, _⟩ := inv.tuple sq
    obtain ⟨u1, u2, rfl, ru1, ru2⟩ := vals2 rv
    cases r
    cases ru1
    refine ⟨p :: ts, (kv.1, b, u2) :: xs, rfl, by simp [hl], .cons ⟨rfl, hb, ru2⟩ kt, fun j x z => ?_⟩
    cases j with
    | zero =>
      cases z
      exact ⟨p, rfl, lies⟩
    | succ j =>
      obtain ⟨t', z1, z2⟩ := at_ j x (by simpa using z)
      exact ⟨t', by simpa using z1, z2⟩
theorem call_dictK (hc : X.calm = true) (hu : X.A.units + 100 < cLine) : CallR X (.type "dict") (fun us H Q => ∃ a o vs kvs, us = [.ref a] ∧ H a = some (.frz o (.tup vs)) ∧ o.cls = .type "tuple" ∧ o.dict = none ∧ PrOf X.K H vs kvs ∧ (kvs.map (·.1)).Nodup ∧ ∀ p, H p = none → Q (.ref p) (upd H p (.dT kvs))) := by
  intro pins s σ H us vals Q inv rel told
  obtain ⟨a, o, vs, kvs, rfl, look, hcl, hdi, prs, nodup, fin⟩ := told
  obtain ⟨u, rfl, ru⟩ := vals1 rel
  cases ru
  obtain ⟨its, rv, ⟨o', get, hc', n, hdat⟩, many⟩ := inv.tuple (.inl (.inr ⟨o, look⟩) : SqT X.K H a vs)
  obtain ⟨get2, _⟩ := (show ObjOk X.prog X.w H s.heap a (.frz o (.tup vs)) from inv.hok a _ look)
  have eo : o' = o := by rw [get] at get2; exact Option.some.inj get2
  subst eo
  obtain ⟨ts, xs, rfl, hl, kt, at_⟩ := pr_raw inv prs rv
  have l2 : kvs.length = xs.length := Paired.length kt
  have l3 : vs.length = kvs.length := Paired.length prs
  have keys : xs.map (·.1) = kvs.map (·.1) := by
    have go : ∀ {l : List (List Key × V)} {m : List (List Key × Addr × Value)}, KT H l m → m.map (·.1) = l.map (·.1) := fun {l m} q => by
      induction q with
      | nil => rfl
      | cons h t ih => rw [List.map_cons, List.map_cons, ih, h.1]
    exact go kt
  have allk : ∀ x ∈ xs, (tupleKind (mixKind X.prog X.w)).is s.heap x.1 x.2.1 ∧ ∃ ob, s.heap.get? x.2.1 = some ob := by
    have go : ∀ {l : List (List Key × V)} {m : List (List Key × Addr × Value)}, KT H l m → ∀ x ∈ m, (tupleKind (mixKind X.prog X.w)).is s.heap x.1 x.2.1 ∧ ∃ ob, s.heap.get? x.2.1 = some ob := fun {l m} q => by
      induction q with
      | nil => exact fun x hx => nomatch hx
      | cons h t ih =>
        intro x hx
        rcases List.mem_cons.mp hx with rfl | hx
        · have k := key_of inv.hok h.2.1
          rw [h.1] at k
          obtain ⟨ob, _, _, z, _⟩ := id k
          exact ⟨k, ob, z⟩
        · exact ih x hx
    exact go kt
  let ps : List (Value × Value) := xs.map fun x => (Value.ref x.2.1, x.2.2)
  have pl : ps.length = xs.length := List.length_map ..
  have items : PairItems s.heap (ts.map Value.ref).toArray (fun j => ts.getD j 0) ps := by
    refine ⟨by simp [ps, hl], fun j k v z => ?_⟩
    have z' : (xs[j]?).map (fun x => (Value.ref x.2.1, x.2.2)) = some (k, v) := by rw [← List.getElem?_map]; exact z
    obtain ⟨x, hx, e⟩ := Option.map_eq_some_iff.mp z'
    cases e
    obtain ⟨t, ht, lies⟩ := at_ j x hx
    have et : ts.getD j 0 = t := by simp [List.getD, ht]
    show (ts.map Value.ref).toArray[j]? = some (.ref (ts.getD j 0)) ∧ PairAt s.heap (ts.getD j 0) _ _
    rw [et]
    exact ⟨by simp [ht], .inl lies⟩
  have stay : KeysStay (tupleKind (mixKind X.prog X.w)) s.heap s.heap.objs.size [] xs := fun h' keep x hx => by
    obtain ⟨⟨ob, ks, m, z1, z2, z3, z4⟩, _⟩ := allk x hx
    exact ⟨ob, ks, m, keep _ _ (Nat.ne_of_lt (Heap.lt_size z1)) (fun q => nomatch q) z1, z2, z3, z4⟩
  have have_ : PairsHaveH (tupleKind (mixKind X.prog X.w)) ps.length (PairRel ps) xs := by
    refine ⟨pl.symm, fun i k v z => ?_⟩
    have z' : (xs[i]?).map (fun x => (Value.ref x.2.1, x.2.2)) = some (k, v) := by rw [← List.getElem?_map]; exact z
    obtain ⟨x, hx, e⟩ := Option.map_eq_some_iff.mp z'
    cases e
    exact ⟨x.1, x.2.1, hx, rfl⟩
  refine call_dict_pairsH (knd := tupleKind (mixKind X.prog X.w)) (ps := xs) (PairArg.tuple a (ts.map Value.ref).toArray (fun j => ts.getD j 0) ps) (inv.ok.hd hc) (show X.A.units + 1 + 1 < cLine by omega) ⟨⟨o', n, get, hc', hdi, hdat⟩, items⟩ have_ stay (by omega) fun h' tk dict keeps => ?_
  rw [storedAllH_nil_of_nodup xs (by rw [keys]; exact nodup)] at dict
  have notSys : (s.heap.objs.size == sysModules) = false := beq_eq_false_iff_ne.mpr (Nat.ne_of_gt inv.big)
  obtain ⟨od, es, ep, z1, z2, z3, z4, z5, z6⟩ := dict
  have kt2 : KT (upd H s.heap.objs.size (.dT kvs)) kvs xs := KT.keeps kt fun b ys e => by
    rw [upd_ne]
    · exact e
    · obtain ⟨_, _, _, ob, z, _⟩ := (show ObjOk X.prog X.w H s.heap b (.tup ys) from inv.hok b _ e)
      exact Nat.ne_of_lt (Heap.lt_size z)
  have ok : ObjOk X.prog X.w (upd H s.heap.objs.size (.dT kvs)) h' s.heap.objs.size (.dT kvs) := ⟨by omega, notSys, xs, kt2, od, es, ep, z1, z2, z3, z4, z6⟩
  exact ⟨.ref s.heap.objs.size, _, inv.laid (t' := tk) (fun b ob e => keeps b ob (fun q => nomatch q) e) (Nat.le_refl _) ok, rfl, fin _ (inv.hok.fresh (Nat.le_refl _))⟩
/-- a pair of a key that is a tuple, and a datum -/
def pairKD : PyData → Option (List Key × PyData)
  | .tuple [.tuple ks, v] => (keysD ks).map fun k => (k, v)
  | _ => none
def pairsKD : List PyData → Option (List (List Key × PyData))
  | [] => some []
  | d :: ds => match pairKD d, pairsKD ds with
    | some p, some ps => some (p :: ps)
    | _, _ => none
def dictKF : OpN := fun _ ws S => match ws with
  | [.kt ds] => match pairsKD ds with
    | some kvs => if (kvs.map (·.1)).Nodup then some (.dat (.dict (kvs.map fun p => (.tuple (p.1.map kD), p.2))), S) else none
    | none => none
  | _ => none
theorem pairs_pr {K : PySem.W.Frag} {F H : Hp} (e : Same F H) : ∀ {ds : List PyData} {vs : List V} {kds : List (List Key × PyData)}, RpAll K F vs ds → pairsKD ds = some kds →
    ∃ kvs : List (List Key × V), PrOf K H vs kvs ∧ kvs.map (·.1) = kds.map (·.1) ∧ ∀ F', Same F F' → RpKV K F' (kvs.map fun p => (.tuple (p.1.map kD), p.2)) (kds.map fun p => (.tuple (p.1.map kD), p.2))
  | [], _, _, r, h => by
    cases r
    simp only [pairsKD] at h
    cases h
    exact ⟨[], .nil, rfl, fun _ _ => .nil⟩
  | d :: ds, _, _, r, h => by
    cases r with
    | cons r1 r2 =>
      simp only [pairsKD] at h
      split at h
      · rename_i p ps h1 h2
        cases h
        obtain ⟨kvs, pr, ek, rk⟩ := pairs_pr e r2 h2
        unfold pairKD at h1
        split at h1
        · rename_i ks v
          simp only [Option.map_eq_some_iff] at h1
          obtain ⟨k, hk, rfl⟩ := h1
          have := keysD_eq hk
          subst this
          cases r1 with
          | tup q r =>
            cases r with
            | cons ra rb =>
              cases rb with
              | cons rb rc =>
                cases rc
                cases ra with
                | tup qa ra =>
                  rename_i a2 xs2
                  have := rp_keys ra
                  subst this
                  exact ⟨(k, _) :: kvs, .cons ⟨_, _, rfl, SqT.of (e _ _ q), e _ _ qa⟩ pr, by simp [ek], fun F' same => .cons (rb.mono same) (rk F' same)⟩
        · cases h1
      · cases h
theorem rc_dictK (hK : g.K = X.K) (hc : X.calm = true) (hu : X.A.units + 100 < cLine) : CallR X (.type "dict") (rdN g dictKF) := by
  intro pins s σ H xs us Q inv rel ⟨bs, ρ, F, N, S, ws, sim, l, p⟩
  unfold dictKF at p
  split at p
  · rename_i ds
    obtain ⟨v, rfl, r2⟩ := all_one l
    cases h1 : pairsKD ds with
    | none => rw [h1] at p; exact p.elim
    | some kds =>
      simp only [h1] at p
      split at p
      · rename_i nd
        cases r2 with
        | kt at_ c d rp =>
          obtain ⟨kvs, pr, ek, rk⟩ := pairs_pr sim.ex rp h1
          refine callR_lockR (call_dictK hc hu) pins s σ H _ us Q inv rel ⟨_, _, _, kvs, rfl, sim.ex _ _ at_, c, d, hK ▸ pr, by rw [ek]; exact nd, fun q hq => ⟨q, _, rfl, upd_same, True.intro, fun od => ?_⟩⟩
          rw [upd_upd2]
          obtain ⟨sim', gr⟩ := sim.frozen (o := .frz od (.dT kvs)) hq
          exact p _ _ _ _ gr sim' (.dat (.dicT upd_same (rk _ gr.ex)))
      · exact p.elim
  · exact p.elim

/-! ### repr -/
def reprD : PyData → Option Str
  | .none => some "None"
  | .bool b => some (if b then "True" else "False")
  | .int i => if i.natAbs.log2 < 1920 then some (toString i) else none
  | .str x => if (reprText x).length ≤ 100000 then some (reprText x) else none
  | .list ds => if PyData.plain (.list ds) = true ∧ PyData.showable (.list ds) = true ∧ PyData.hasDict (.list ds) = false ∧ PyData.depth (.list ds) ≤ 64 ∧ (PyData.shown (.list ds)).length ≤ 100000 then some (PyData.shown (.list ds)) else none
  | .tuple ds => if PyData.plain (.tuple ds) = true ∧ PyData.showable (.tuple ds) = true ∧ PyData.hasDict (.tuple ds) = false ∧ PyData.depth (.tuple ds) ≤ 64 ∧ (PyData.shown (.tuple ds)).length ≤ 100000 then some (PyData.shown (.tuple ds)) else none
  | _ => none
def reprF : OpN := fun _ ws S => match ws with
  | [w] => match viewD S w with
    | some d => (reprD d).map fun t => (.str t, S)
    | none => none
  | _ => none
theorem dp_repr {pins : List (Addr × Obj)} {s : Shared} {σ : L2.St} {H : Hp} {v : V} {u : Value} {d : PyData} {Q : VK} (hg : X.A.guards = some []) (hu : X.A.units + 100 < cLine) (inv : Inv X pins σ H s) (dp : Dp X.K H v d) (rel : RelV v u) (isRef : ∃ a, v = .ref a)
    (h2 : d.showable = true) (h3 : d.hasDict = false) (h4 : d.depth ≤ 64) (h5 : d.shown.length ≤ 100000) (q : Q (.str d.shown) H) : wpAny (model X.prog X.w) X.A (call (.builtin "repr") [u]) (EP X pins σ Q) X.xe s := by
  obtain ⟨as, read⟩ := Dp.reads inv d v u dp rel
  obtain ⟨a, rfl⟩ := isRef
  cases rel
  exact repr_of_reads' read h2 (fun z => by rw [h3] at z; cases z) hg (by omega) (fun b o e => e) (fun h' t tk keeps => ⟨.str d.shown, H, inv.kept (t' := tk) keeps, ⟨_, rfl⟩, q⟩) (by rw [sizeLine_eq]; omega)
theorem rc_repr (hK : g.K = X.K) (hg : X.A.guards = some []) (hu : X.A.units + 100 < cLine) : CallR X (.builtin "repr") (rdN g reprF) := by
  intro pins s σ H xs us Q inv rel ⟨bs, ρ, F, N, S, ws, sim, l, p⟩
  unfold reprF at p
  split at p
  · rename_i w
    obtain ⟨v, rfl, r2⟩ := all_one l
    obtain ⟨u, rfl, ru⟩ := vals1 rel
    cases h1 : viewD S w with
    | none => rw [h1] at p; exact p.elim
    | some d =>
      simp only [h1] at p
      have fin : ∀ t, reprD d = some t → Q (.str t) H := fun t e => by
        rw [e] at p
        exact p ρ F H _ (Grow.refl _ _) sim (.dat (.str t))
      cases d with
      | none =>
        have dp : Dp X.K H v .none := hK ▸ view_dp sim r2 h1 rfl
        cases dp
        cases ru
        exact PySem.P.repr_of_none ⟨.str "None", H, inv.tok _, ⟨_, rfl⟩, fin _ rfl⟩
      | bool b =>
        have dp : Dp X.K H v (.bool b) := hK ▸ view_dp sim r2 h1 rfl
        cases dp
        cases ru
        exact PySem.P.repr_of_bool ⟨.str (if b then "True" else "False"), H, inv.tok _, ⟨_, rfl⟩, fin _ rfl⟩
      | list ds =>
        by_cases ok : PyData.plain (.list ds) = true ∧ PyData.showable (.list ds) = true ∧ PyData.hasDict (.list ds) = false ∧ PyData.depth (.list ds) ≤ 64 ∧ (PyData.shown (.list ds)).length ≤ 100000
        · obtain ⟨k1, k2, k3, k4, k5⟩ := id ok
          have dp : Dp X.K H v (.list ds) := hK ▸ view_dp sim r2 h1 k1
          exact dp_repr hg hu inv dp ru (by cases dp; exact ⟨_, rfl⟩) k2 k3 k4 k5 (fin _ (by simp only [reprD]; rw [if_pos ok]))
        · exfalso
          simp only [reprD] at p
          rw [if_neg ok] at p
          exact p.elim
      | tuple ds =>
        by_cases ok : PyData.plain (.tuple ds) = true ∧ PyData.showable (.tuple ds) = true ∧ PyData.hasDict (.tuple ds) = false ∧ PyData.depth (.tuple ds) ≤ 64 ∧ (PyData.shown (.tuple ds)).length ≤ 100000
        · obtain ⟨k1, k2, k3, k4, k5⟩ := id ok
          have dp : Dp X.K H v (.tuple ds) := hK ▸ view_dp sim r2 h1 k1
          exact dp_repr hg hu inv dp ru (by cases dp; exact ⟨_, rfl⟩) k2 k3 k4 k5 (fin _ (by simp only [reprD]; rw [if_pos ok]))
        · exfalso
          simp only [reprD] at p
          rw [if_neg ok] at p
          exact p.elim
      | int i =>
        have dp : Dp X.K H v (.int i) := hK ▸ view_dp sim r2 h1 rfl
        cases dp
        obtain ⟨t, rfl⟩ := ru
        by_cases ok : i.natAbs.log2 < 1920
        · exact PySem.P.repr_of_int ok ⟨.str (toString i), H, inv.tok _, ⟨_, rfl⟩, fin _ (by simp only [reprD]; rw [if_pos ok])⟩
        · exfalso
          simp only [reprD] at p
          rw [if_neg ok] at p
          exact p.elim
      | str x =>
        have dp : Dp X.K H v (.str x) := hK ▸ view_dp sim r2 h1 rfl
        cases dp
        obtain ⟨t, rfl⟩ := ru
        by_cases ok : (reprText x).length ≤ 100000
        · exact PySem.P.repr_of_str ⟨.str (reprText x), H, inv.tok _, ⟨_, rfl⟩, fin _ (by simp only [reprD]; rw [if_pos ok])⟩ (by rw [sizeLine_eq]; omega)
        · exfalso
          simp only [reprD] at p
          rw [if_neg ok] at p
          exact p.elim
      | dict x => exact p.elim
  · exact p.elim
end
end Rf

namespace Rf
open PySem PySem.Spec L2 PyProof.Rows

/-! ### the end: the law's def, called at the script -/
theorem room_top (k : Nat) (h : Room k callerA) : RoomG k callerA := ⟨h, rfl⟩
section
variable {P : Program} {w : World} {K : PySem.W.Frag} {mg mb : Str → Option Value} {k : Nat} {fa a : Addr} {fd : FuncData} {x : Str} {sp : Sp} {top : Shared} {vs : List Value} {ns : List Int}
abbrev Held (top : Shared) : Result → Shared → Prop := fun r t => r = .ok (.ret (.bool true)) ∧ OldK top.heap t.heap ∧ t.os = top.os ∧ AllBare t.gens
/-- from an abstract heap that tracks the script alone -/
theorem end_core (H : Hp) (only : Only H) (sq : SqL K H a (ns.map V.int)) (ok : HOk P w H top.heap) (one : ∀ b, H b ≠ none → b = a) (apart : H a ≠ none → K.lookup a = none)
    (KX : K.In top.heap) (hns : top.heap.Ns mainGlobals mg) (hb : top.heap.Ns builtinsNs mb) (boot : ∀ x : Str, x ≠ "__name__" → mb x = bootBuiltins x) (lim : top.heap.NoLimit) (gens : top.gens = #[])
    (lies : top.heap.get? a = some { cls := .type "list", data := .seq vs.toArray }) (room : Room k callerA)
    (F : ∀ base : Heap, K.In base → base.Ns mainGlobals mg → FnG P w K mg base k fa fd [x] sp) (bind : ∀ (s : Shared) (u : Value), BindsTo s fd ⟨[u], []⟩ [(x, u)])
    (promise : sp [.ref a] H (fun v _ => v = .bl true) fun _ _ _ => False) :
    codeAny (model P w) callerA (.call (.ref fa) ⟨[.ref a], []⟩) (Held top) top := by
  have seen : ∀ {b : Addr} {o : Obj}, top.heap.get? b = some o → H b = none → (hidT top.heap H).get? b = some o := fun e z => hidT_get e z
  have apartD : ∀ {b : Addr} {o : Obj} {es : Array DictEntry} {ep : Nat}, top.heap.get? b = some o → o.data = .dict es ep → H b = none := by
    intro b o es ep e d
    cases z : H b with
    | none => rfl
    | some u =>
      obtain rfl : b = a := one b (by rw [z]; simp)
      rw [lies] at e
      cases e
      exact nomatch (show Data.seq vs.toArray _ = Data.dict es ep from d)
  have names : ∀ {b : Addr} {m : Str → Option Value}, top.heap.Ns b m → (hidT top.heap H).Ns b m := fun q =>
    let ⟨o, es, ep, e, d, r⟩ := q
    ⟨o, es, ep, seen e (apartD e d), d, r⟩
  have KB : K.In (hidT top.heap H) := by
    intro b o e
    refine seen (KX b o e) ?_
    cases z : H b with
    | none => rfl
    | some u =>
      obtain rfl : b = a := one b (by rw [z]; simp)
      rw [apart (by rw [z]; simp)] at e
      cases e
  obtain ⟨mc, l1, l2⟩ := lim
  have modul : Mod K mg (hidT top.heap H) := ⟨KB, names hns, ⟨mb, names hb, boot⟩, ⟨mc, names l1, l2⟩⟩
  have noFrame : ∀ b, b ∈ ([] : List Addr) → False := fun b q => nomatch q
  have e0 : Env0 P w K mg (hidT top.heap H) callerA [] top H := ⟨rfl, modul, fun b o e => of_hidT e, Nat.le_of_eq (hidT_size _ _), trivial, fun b q => (noFrame b q).elim, ok, .of_eq gens⟩
  have ran := (F _ KB (names hns)).go callerA [] top H ⟨[.ref a], []⟩ [.ref a] [.ref a] _ _ (room_top k room) e0 (bind top (.ref a)) (.cons rfl .nil) promise
  refine codeAny_mono ran fun r t done => ?_
  cases r with
  | error e =>
    obtain ⟨_, _, _, _, _, _, _, _, _, _, _, _, _, z⟩ := done
  | ok fl =>
    cases fl with
    | next => exact done.elim
    | brk => exact done.elim
    | cont => exact done.elim
    | ret u =>
      obtain ⟨v, H', os, bare, kept, ok', rel, rfl⟩ := done
      obtain rfl : u = Value.bool true := rel
      refine ⟨rfl, OldK.of_keep fun b o e => ?_, os, bare⟩
      cases z : H b with
      | none => exact kept.keep b o e z (fun q => noFrame b q) (by simp)
      | some u =>
        rcases only b with q | ⟨ob, xs, q⟩
        · rw [z] at q; cases q
        · obtain ⟨e1, _⟩ := ok b _ q
          obtain ⟨e2, _⟩ := ok' b _ (kept.frzs b ob _ q)
          rw [e] at e1
          cases e1
          exact e2
theorem law_end (KX : K.In top.heap) (hns : top.heap.Ns mainGlobals mg) (hb : top.heap.Ns builtinsNs mb) (boot : ∀ x : Str, x ≠ "__name__" → mb x = bootBuiltins x) (lim : top.heap.NoLimit) (gens : top.gens = #[])
    (lies : top.heap.get? a = some { cls := .type "list", data := .seq vs.toArray }) (nums : IntsAre vs ns) (many : ns.length ≤ sizeLine) (room : Room k callerA)
    (F : ∀ base : Heap, K.In base → base.Ns mainGlobals mg → FnG P w K mg base k fa fd [x] sp) (bind : ∀ (s : Shared) (u : Value), BindsTo s fd ⟨[u], []⟩ [(x, u)])
    (promise : ∀ H : Hp, Only H → SqL K H a (ns.map V.int) → sp [.ref a] H (fun v _ => v = .bl true) fun _ _ _ => False) :
    codeAny (model P w) callerA (.call (.ref fa) ⟨[.ref a], []⟩) (Held top) top := by
  have rv := vals_ints nums
  have lv := nums.length
  cases own : K.lookup a with
  | some o =>
    -- the list is one of the module's
    have e := KX a o own
    rw [lies] at e
    cases e
    have only : Only fun _ => none := fun _ => .inl rfl
    have sq : SqL K (fun _ => none) a (ns.map V.int) := .inr ⟨_, vs.toArray, _, own, rfl, rfl, rfl, by rw [List.size_toArray, lv]; exact many, by simpa using rv⟩
    exact end_core (fun _ => none) only sq (fun b u z => nomatch (show (none : Option HO) = some u from z)) (fun b z => absurd rfl z) (fun z => absurd rfl z) KX hns hb boot lim gens lies room F bind (promise _ only sq)
  | none =>
    let H : Hp := fun b => if b = a then some (.frz { cls := .type "list", data := .seq vs.toArray } (.lst (ns.map V.int))) else none
    have at_ : H a = some (.frz { cls := .type "list", data := .seq vs.toArray } (.lst (ns.map V.int))) := if_pos rfl
    have off : ∀ b, b ≠ a → H b = none := fun b z => if_neg z
    have only : Only H := fun b => by
      by_cases z : b = a
      · subst z; exact .inr ⟨_, _, at_⟩
      · exact .inl (off b z)
    have sq : SqL K H a (ns.map V.int) := .inl (.inr ⟨_, at_⟩)
    refine end_core H only sq (fun b u z => ?_) (fun b z => ?_) (fun _ => own) KX hns hb boot lim gens lies room F bind (promise _ only sq)
    · by_cases q : b = a
      · subst q
        rw [at_] at z
        cases z
        exact ⟨lies, by rw [List.length_map]; exact many, vs, _, rv, lies⟩
      · rw [off b q] at z; cases z
    · by_cases q : b = a
      · exact q
      · exact absurd (off b q) z
end
/-- what is left of a law behind its head -/
theorem walk_end {l : PySem.W.OpenLaw} {n k : Nat} {q : Program} {loose : List Str} {XP : (Str → Option Value) → Heap → Prop} {YP : World → Heap → Prop} {d : DefRec} {K : Params → PySem.W.Frag} {sp : World → Sp} {x : Str}
    (hn : l.most = some n) (few : n ≤ sizeLine) (plain : d.params.defaults = []) (room : Room k callerA) (known : ∀ (w : World) (h : Heap), YP w h → (K w.params).In h)
    (F : ∀ (w : World) (mg : Str → Option Value) (fa : Addr) (h : Heap), (K w.params).In h → h.Ns mainGlobals mg → mg d.name = some (.ref fa) →
      ∃ fd : FuncData, (∀ (s : Shared) (u : Value), BindsTo s fd ⟨[u], []⟩ [(x, u)]) ∧ ∀ base : Heap, (K w.params).In base → base.Ns mainGlobals mg → FnG l.prog w (K w.params) mg base k fa fd [x] (sp w))
    (promise : ∀ (w : World) (H : Hp) (a : Addr) (ns : List Int), ns.length ≤ n → (∀ z ∈ ns, Builtin.Int.intBits z ≤ 1048576) → Only H → SqL (K w.params) H a (ns.map V.int) → sp w [.ref a] H (fun v _ => v = .bl true) fun _ _ _ => False) :
    PySem.W.WalkO q loose XP YP l.row.toRowW d [] (fun f vs => PySem.call f vs) :=
  Att.attach_callB hn plain fun w s0 s1 mg mb fa o pm cd doc a vs ns G Y _ _ _ main lies nums len bits gens =>
    let KX := known w _ Y
    let ⟨fd, bind, FF⟩ := F w mg fa _ KX G.T.g main
    law_end KX G.T.g G.T.b G.T.builtins G.T.nolimit gens lies nums (Nat.le_trans len few) room FF bind fun H only sq => promise w H a ns len bits only sq
end Rf

namespace Rf
open PySem L2 PyProof.Rows

/-! ### texts: index, join -/
def sindF : OpM := fun _ x ws S => match x, ws with
  | .dat (.str a), [.dat (.str b)] => match Builtin.Str.occurrences a b 0 a.length 1 with
    | i :: _ => some (.int (i : Nat), S)
    | [] => none
  | _, _ => none
def strsW : List W → Option (List Str)
  | [] => some []
  | .dat (.str b) :: ws => (strsW ws).map (b :: ·)
  | _ :: _ => none
theorem strs_is {K : PySem.W.Frag} {ρ : List Addr} {F : Hp} : ∀ {ws : List W} {vs : List V} {xs : List Str}, IsAll K ρ F vs ws → strsW ws = some xs → vs = xs.map V.str
  | [], _, _, h, e => by cases h; simp [strsW] at e; subst e; rfl
  | w :: ws, _, _, .cons a b, e => by
    unfold strsW at e
    split at e
    · rename_i h; cases h
    · rename_i b' ws' h
      cases h
      simp only [Option.map_eq_some_iff] at e
      obtain ⟨ys, e, rfl⟩ := e
      rw [strs_is b e]
      cases a with
      | dat r => cases r; rfl
    · cases e
def joinF : OpM := fun _ x ws S => match x, ws with
  | .dat (.str a), [w] => match (seqOf S w).bind strsW with
    | some ys => if (ys.map (·.length)).sum + ys.length * a.length ≤ 16777216 then some (.str (Txt.join a ys), S) else none
    | none => none
  | _, _ => none
/-- xs.insert(i, y) -/
def insF : OpM := fun bs x ws S => match x, ws with
  | .loc n, [.dat (.int i), w] => match S[n]? with
    | some (.lst us) => if us.length < 100000 ∧ mayW bs n w = true ∧ 0 ≤ i ∧ i < 100000 then some (.non, S.set n (.lst (us.take i.toNat ++ [w] ++ us.drop i.toNat))) else none
    | _ => none
  | _, _ => none
/-- max(xs), min(xs) of a list of ints -/
def maxLF : Store → W → Option W := fun S w => match (lstOf S w).bind intsW with
  | some ns => (ns.max?).map .int
  | none => none
def minLF : Store → W → Option W := fun S w => match (lstOf S w).bind intsW with
  | some ns => (ns.min?).map .int
  | none => none
section
variable {X : Cx} {g : Gx} {bs : List Nat} {ρ : List Addr} {F N H : Hp} {S : Store}
theorem mt_sind : MtR X "str.index" (rdMt g sindF) := by
  intro pins s σ H x xs v us Q I rx rxs ⟨bs, ρ, F, N, S, wx, ws, sim, r1, l, p⟩
  unfold sindF at p
  split at p
  · rename_i a b
    cases ho : Builtin.Str.occurrences a b 0 a.length 1 with
    | nil => rw [ho] at p; exact p.elim
    | cons i rest =>
      rw [ho] at p
      obtain ⟨y, rfl, ry⟩ := all_one l
      rw [is_str r1] at rx; rw [is_str ry] at rxs
      exact mt_sindex pins s σ H _ _ v us Q I rx rxs ⟨a, b, i, rest, rfl, rfl, ho, p ρ F H _ (Grow.refl _ _) sim (.dat (.int _))⟩
  · exact p.elim
theorem mt_joinR (hK : g.K = X.K) : MtR X "str.join" (rdMt g joinF) := by
  intro pins s σ H x xs v us Q I rx rxs ⟨bs, ρ, F, N, S, wx, ws, sim, r1, l, p⟩
  unfold joinF at p
  split at p
  · rename_i a w
    cases hq : (seqOf S w).bind strsW with
    | none => rw [hq] at p; exact p.elim
    | some ys =>
      simp only [hq] at p
      split at p
      · rename_i hz
        obtain ⟨zs, h1, h2⟩ := Option.bind_eq_some_iff.mp hq
        obtain ⟨y, rfl, ry⟩ := all_one l
        obtain ⟨b, vs, rfl, q, l2⟩ := seq_of sim ry h1
        rw [strs_is l2 h2, hK] at q
        rw [is_str r1] at rx
        exact mt_join pins s σ H _ _ v us Q I rx rxs ⟨a, b, ys, rfl, rfl, q, hz, p ρ F H _ (Grow.refl _ _) sim (.dat (.str _))⟩
      · exact p.elim
  · exact p.elim
theorem mt_insR : MtR X "list.insert" (rdMt g insF) := by
  intro pins sh σ H x xs v us Q I rx rv ⟨bs, ρ, F, N, S, wx, ws, s, r, l, p⟩
  unfold insF at p
  split at p
  · rename_i n i w
    cases r with
    | loc hn =>
      rename_i a
      obtain ⟨y0, y, rfl, r0, ry⟩ := all_two l
      split at p
      · rename_i us' hS
        split at p
        · rename_i hm
          obtain ⟨h1, h2, h3, h4⟩ := hm
          obtain ⟨vs, e, q⟩ := s.cell n _ _ hS hn
          rw [is_int r0] at rv
          refine mt_insert pins sh σ H _ _ v us Q I rx rv ⟨a, vs, i, y, rfl, rfl, e, by rw [q.len]; exact Nat.lt_of_lt_of_le h1 (by decide), h3, by omega, ?_⟩
          refine p ρ F _ _ (Grow.refl _ _) (s.write hS rfl hn ⟨_, upd_same, ((q.take _).append (.cons ry .nil)).append (q.drop _)⟩ fun b hb hlt => ?_) (.dat .non)
          have hu := (s.bot b hb).2 n _ hlt hS
          have hw := mayW_le h2 hb hlt
          show W.undAll b _ = true
          rw [undAll_iff]
          intro z hz
          have hu' := undAll_iff.mp hu
          rcases List.mem_append.mp hz with hz | hz
          · rcases List.mem_append.mp hz with hz | hz
            · exact hu' z (List.mem_of_mem_take hz)
            · simp at hz; rw [hz]; exact hw
          · exact hu' z (List.mem_of_mem_drop hz)
        · exact p.elim
      · exact p.elim
  · exact p.elim
theorem rc_maxL (hK : g.K = X.K) (hc : X.calm = true) : CallR X (.builtin "max") (rdN g (un maxLF)) := by
  intro pins s σ H xs us Q I r ⟨bs, ρ, F, N, S, ws, s1, r1, p⟩
  unfold un at p
  split at p
  · obtain ⟨v, rfl, r2⟩ := all_one r1
    unfold maxLF at p
    split at p
    · rename_i ns h1
      obtain ⟨zs, h2, h3⟩ := Option.bind_eq_some_iff.mp h1
      obtain ⟨a, vs, rfl, q1, l1⟩ := lst_of s1 r2 h2
      rw [hK, ints_is l1 h3] at q1
      cases h4 : ns.max? with
      | none => rw [h4] at p; exact p.elim
      | some m =>
        rw [h4] at p
        refine cr_max hc pins s σ H _ us Q I r ⟨a, ns, rfl, q1, ?_, fun m' hm' hy => ?_⟩
        · cases ns with
          | nil => cases h4
          | cons => simp
        · have : ns.max? = some m' := List.max?_eq_some_iff.mpr ⟨hm', hy⟩
          rw [this] at h4; cases h4
          exact p ρ F H _ (Grow.refl _ _) s1 (.dat (.int _))
    · exact p.elim
  · exact p.elim
theorem rc_minL (hK : g.K = X.K) (hc : X.calm = true) : CallR X (.builtin "min") (rdN g (un minLF)) := by
  intro pins s σ H xs us Q I r ⟨bs, ρ, F, N, S, ws, s1, r1, p⟩
  unfold un at p
  split at p
  · obtain ⟨v, rfl, r2⟩ := all_one r1
    unfold minLF at p
    split at p
    · rename_i ns h1
      obtain ⟨zs, h2, h3⟩ := Option.bind_eq_some_iff.mp h1
      obtain ⟨a, vs, rfl, q1, l1⟩ := lst_of s1 r2 h2
      rw [hK, ints_is l1 h3] at q1
      cases h4 : ns.min? with
      | none => rw [h4] at p; exact p.elim
      | some m =>
        rw [h4] at p
        refine cr_min hc pins s σ H _ us Q I r ⟨a, ns, rfl, q1, ?_, fun m' hm' hy => ?_⟩
        · cases ns with
          | nil => cases h4
          | cons => simp
        · have : ns.min? = some m' := List.min?_eq_some_iff.mpr ⟨hm', hy⟩
          rw [this] at h4; cases h4
          exact p ρ F H _ (Grow.refl _ _) s1 (.dat (.int _))
    · exact p.elim
  · exact p.elim
end
/-! ### enumerate of a list -/
section
variable {X : Cx} {tg : Expr} {g : Gx} {B : WX} {bs : List Nat} {ρ : List Addr} {F N H : Hp} {S : Store} {a b e : Expr} {ms : M (List W)} {p pos tpos : Pos} {elts : List Expr} {kk : Nat}
theorem walk_enm {x : Addr} {i1 : Iter} (r1 : RepQ true g ρ F i1 x) : WalkOk g (Ite g.K x) ρ F (.enm i1) := by
  intro bs ρ' F' N' S' H' i gr s
  show match (match i1.next i S' with
    | some (some x) => some (some (mkTup [.int i, x]))
    | some none => some none
    | none => none : Option (Option W)) with
    | some (some w) => _
    | some none => _
    | none => True
  rcases r1 bs ρ' F' N' S' H' gr s with ⟨vs, ws, q1, l1, e1⟩ | e1
  · rw [e1 i]
    cases hw : ws[i]? with
    | none => exact ⟨vs, q1, by rw [l1.len]; exact List.getElem?_eq_none_iff.mp hw⟩
    | some w =>
      obtain ⟨v, hv, rv⟩ := l1.get hw
      refine ⟨⟨vs, v, q1, hv⟩, fun xv H2 h => ?_⟩
      obtain ⟨T, v', e1, hT, e3, h1⟩ := h
      subst e1 e3
      have h1 := h1 vs q1
      rw [hv] at h1; cases h1
      obtain ⟨s', g'⟩ := s.frozen (o := .tup [.int (i : Nat), v]) hT
      exact ⟨_, g', s', is_mkTup upd_same (.cons (.dat (.int _)) (.cons (rv.mono g') .nil))⟩
  · rw [e1 i]; trivial
def mEnm (ms : M (List W)) : M Iter := fun bs env S => (ms bs env S).bind fun ws S1 => match ws with
  | [x] => match iterL S1 x with
    | some it => .ok (.enm it) S1
    | none => .stuck
  | _ => .stuck
theorem ri_enm (hK : g.K = X.K) (hg : Gl X "enumerate") (hm : X.mg "enumerate" = none) (ha : PA X [a] (rdA g B ms)) (hs : starEach [a] X.env = [(false, eval a X.env)] := by rfl) :
    PI X (.Tuple elts kk tpos) (.Call (.Name "enumerate" p) [a] [] pos) (rdI g B (mEnm ms)) := (pi_enum hg hm ha hs).imp fun σ H R ⟨bs, ρ, F, N, env, S, s, e, p⟩ => by
  refine ⟨bs, ρ, F, N, env, S, s, e, (Post.iter (R := RWs g) p).imp fun x H1 ⟨ρ1, F1, wx, S1, g1, s1, r1, p1⟩ => ?_⟩
  rw [← hK]
  split at p1
  · rename_i w
    obtain ⟨v, rfl, rv⟩ := all_one r1
    split at p1
    · rename_i it hi
      obtain ⟨x, rfl, ⟨vs, q1⟩, w1⟩ := rep_lst s1 rv hi
      exact ⟨x, vs, rfl, q1, p1 ρ1 F1 H1 _ (Grow.refl _ _) s1 (walk_enm w1)⟩
    · exact p1.elim
  · exact p1.elim
end
end Rf

namespace Rf
open PySem L2 PyProof.Rows

/-! ### a dict that is a cell is locked for good -/
section
variable {X : Cx} {g : Gx} {B : WX} {bs : List Nat} {ρ : List Addr} {F N H : Hp} {S : Store} {σ : L2.St}
theorem Sim.freeze {n : Nat} {a : Addr} {ws : List (PyData × W)} {u : HO} {od : Obj} (s : Sim g bs ρ F N S H) (hS : S[n]? = some (.dic ws)) (hn : ρ[n]? = some a)
    (hc : CellOk g ρ (upd F a (.frz od u)) (upd H a (.frz od u)) a (.fz ws)) : Sim g bs ρ (upd F a (.frz od u)) N (S.set n (.fz ws)) (upd H a (.frz od u)) ∧ Grow ρ F ρ (upd F a (.frz od u)) := by
  have fa : F a = none := s.fr n _ a hS hn rfl
  have gr : Grow ρ F ρ (upd F a (.frz od u)) := ⟨⟨[], by simp⟩, same_new fa⟩
  have hl := (List.getElem?_eq_some_iff.mp hn).1
  have hl' : n < S.length := by rw [← s.len]; exact hl
  have off : ∀ b o, N b = some o → b ≠ a := fun b o e z => (s.nf b o e).2 (by rw [z]; exact List.mem_of_getElem? hn)
  have apart : ∀ m b, m ≠ n → ρ[m]? = some b → b ≠ a := fun m b hm e z => by subst z; exact hm (Sim.write.nodup_ixA s.nd e hn)
  refine ⟨⟨by simp [s.len], s.nd, fun b u' e => ?_, fun m c b e1 e2 e3 => ?_, fun m c b e1 e2 => ?_, fun b u' e => ?_, fun b u' e => ⟨?_, (s.nf b u' e).2⟩, s.nl, fun b hb => ?_, tabs_put (CellOk.nt (s.cell n _ a hS hn)) s.tab, nt_upd s.nt fun _ z => nomatch z⟩, gr⟩
  · by_cases z : b = a
    · subst z; rw [upd_same] at e ⊢; exact e
    · rw [upd_ne z] at e ⊢; exact s.ex b u' e
  · by_cases hm : m = n
    · subst hm
      rw [List.getElem?_set_self hl'] at e1
      cases e1; cases e3
    · rw [upd_ne (apart m b hm e2)]
      rw [List.getElem?_set_ne (Ne.symm hm)] at e1
      exact s.fr m c b e1 e2 e3
  · by_cases hm : m = n
    · subst hm
      rw [List.getElem?_set_self hl'] at e1
      cases e1
      rw [hn] at e2; cases e2
      exact hc
    · rw [List.getElem?_set_ne (Ne.symm hm)] at e1
      exact (s.cell m c b e1 e2).mono gr (by rw [upd_ne (apart m b hm e2)])
  · rw [upd_ne (off b u' e)]; exact s.hid b u' e
  · rw [upd_ne (off b u' e)]; exact (s.nf b u' e).1
  · obtain ⟨h1, h2⟩ := s.bot b hb
    refine ⟨by simpa using h1, fun k c hk e => ?_⟩
    by_cases hm : k = n
    · subst hm
      rw [List.getElem?_set_self hl'] at e
      cases e
      exact h2 k (.dic ws) hk hS
    · rw [List.getElem?_set_ne (Ne.symm hm)] at e
      exact h2 k c hk e

/-! ### a locked dict, its entries one by one -/
inductive FzD (H : Hp) (d : Addr) (o : Obj) : List (PyData × V) → Prop
  | k {kvs : List (Key × V)} : H d = some (.frz o (.dK kvs)) → FzD H d o (kvs.map fun p => (kD p.1, p.2))
  | t {kvs : List (List Key × V)} : H d = some (.frz o (.dT kvs)) → FzD H d o (kvs.map fun p => (.tuple (p.1.map kD), p.2))
/-- a key as it stands in the heap -/
def KeyV (H : Hp) (kd : PyData) (x : V) : Prop := (∃ k : Key, kd = kD k ∧ x = kV k) ∨ ∃ (ks : List Key) (q : Addr), kd = .tuple (ks.map kD) ∧ x = .ref q ∧ H q = some (.tup (ks.map kV))
theorem pairs_at {P : Program} {w : World} : ∀ {es : List DictEntry} {vs : List (Key × Value)}, Pairs (mixKind P w) es vs → ∀ {i : Nat} {k : Key} {u : Value}, vs[i]? = some (k, u) → ∃ en, es[i]? = some en ∧ keyIs k en.key = true ∧ en.val = u
  | _, _, .nil, i, k, u, h => by simp at h
  | _, _, .cons h1 h2 r, 0, k, u, h => by
    simp only [List.getElem?_cons_zero, Option.some.injEq] at h
    subst h
    exact ⟨_, rfl, h1, h2⟩
  | _, _, .cons h1 h2 r, i + 1, k, u, h => by
    simp only [List.getElem?_cons_succ] at h ⊢
    exact pairs_at r h
theorem fz_raw {pins : List (Addr × Obj)} {sh : Shared} {d : Addr} {o : Obj} {vs : List (PyData × V)} (inv : Inv X pins σ H sh) (z : FzD H d o vs) :
    (d == sysModules) = false ∧ ∃ (es : Array DictEntry) (ep : Nat), o.data = .dict es ep ∧ DT.Raw sh.heap d es ep ∧ es.size = vs.length ∧ o.dict = none ∧
      ∀ (i : Nat) (kd : PyData) (v : V), vs[i]? = some (kd, v) → ∃ (en : DictEntry) (x : V), es[i]? = some en ∧ KeyV H kd x ∧ RelV x en.key ∧ RelV v en.val := by
  cases z with
  | @k kvs look =>
    obtain ⟨hs, get, ex, es, ep, us, dat, size, kv, at_⟩ := inv.frzK look
    obtain ⟨o', es', get', _, dat', _, prs, _⟩ := at_
    rw [get] at get'; cases get'
    rw [dat] at dat'; cases dat'
    refine ⟨hs, es, ep, dat, ⟨o, get, ex, dat⟩, by simpa using size, ex.2.1, fun i kd v e => ?_⟩
    rw [List.getElem?_map] at e
    obtain ⟨⟨k, v'⟩, e1, e2⟩ := Option.map_eq_some_iff.mp e
    cases e2
    obtain ⟨u, hu, ru⟩ := kv_get kv e1
    obtain ⟨en, h1, h2, h3⟩ := pairs_at prs hu
    exact ⟨en, kV k, by rw [← Array.getElem?_toList]; exact h1, .inl ⟨k, rfl, rfl⟩, relV_key h2, by rw [h3]; exact ru⟩
  | @t kvs look =>
    obtain ⟨get, z, hs, xs, pr, o', es, ep, get', ex, dat, ents, _⟩ := (show ObjOk X.prog X.w H sh.heap d (.frz o (.dT kvs)) from inv.hok d _ look)
    rw [get] at get'; cases get'
    have size : es.size = xs.length := size_of_entries ents
    have many : kvs.length = xs.length := Paired.length pr
    refine ⟨hs, es, ep, dat, ⟨o, get, ex, dat⟩, by simp; omega, ex.2.1, fun i kd v e => ?_⟩
    rw [List.getElem?_map] at e
    obtain ⟨⟨k, v'⟩, e1, e2⟩ := Option.map_eq_some_iff.mp e
    cases e2
    obtain ⟨b, hb, h1, h2, h3⟩ := paired_get pr e1
    have at_ := entry_at ents i
    rw [hb] at at_
    exact ⟨_, .ref b.2.1, at_, .inr ⟨k, b.2.1, rfl, rfl, h2⟩, rfl, h3⟩
/-- its pairs, each a new tuple -/
def ItZ (d : Addr) (o : Obj) (vs : List (PyData × V)) : It :=
  ⟨fun i H => FzD H d o vs ∧ i < vs.length, fun i H x H' => ∃ T kd kx v, vs[i]? = some (kd, v) ∧ KeyV H kd kx ∧ x = .ref T ∧ H T = none ∧ H' = upd H T (.tup [kx, v]), fun i H => FzD H d o vs ∧ vs.length ≤ i⟩
theorem turn_pairs {P : Program} {w : World} {K : PySem.W.Frag} {d : Addr} {o : Obj} {vs : List (PyData × V)} {es : Array DictEntry} {ep : Nat} {names : List Expr} {star : Nat} {tp : Pos} (walker : Addr) (dat : o.data = .dict es ep) :
    Turn P w K (.Tuple names star tp) (ItZ d o vs) [walker] walker (fun i h => ∃ lk lv, IsItemIter h walker d i es.size ep lk lv) where
  mem := List.mem_singleton.mpr rfl
  obj := fun i h there b member => by
    obtain rfl := List.mem_singleton.mp member
    obtain ⟨lk, lv, get⟩ := there
    exact ⟨_, get, fun v z => nomatch z⟩
  keep := fun i h h' there same => by
    obtain ⟨lk, lv, get⟩ := there
    exact ⟨lk, lv, same walker (List.mem_singleton.mpr rfl) _ get⟩
  self := fun A i s Q E there q => by
    obtain ⟨_, _, get⟩ := there
    exact PySem.W.kcp_self get q
  done := by
    intro X e1 e2 e3 calm i pins s σ H E inv foot there told
    subst e1 e2 e3
    obtain ⟨z, past⟩ := told
    obtain ⟨lk, lv, get⟩ := there
    obtain ⟨_, es', ep', dat', raw, size, _⟩ := fz_raw inv z
    rw [dat] at dat'; cases dat'
    obtain ⟨f0, f1, f2, f3, f4, f5⟩ := foot walker (List.mem_singleton.mpr rfl)
    exact DT.endI (inv.ok.hd calm) get raw (by rw [size]; exact past) fun h' other => ⟨rfl, inv.turned (t' := s.toks) (fun b ob ne q => other b ob ne q) f0 f1 f3 f4 f5⟩
  item := by
    intro X e1 e2 e3 calm i pins s σ H E inv foot there told
    subst e1 e2 e3
    obtain ⟨z, more⟩ := told
    obtain ⟨lk, lv, get⟩ := there
    obtain ⟨_, es', ep', dat', raw, size, _, ents⟩ := fz_raw inv z
    rw [dat] at dat'; cases dat'
    obtain ⟨⟨kd, v⟩, at_⟩ : ∃ p, vs[i]? = some p := ⟨vs[i], List.getElem?_eq_getElem more⟩
    obtain ⟨en, kx, en_, kk, rk, rv⟩ := ents i kd v at_
    have hi : i < es.size := by rw [size]; exact more
    have een : es[i] = en := by rw [Array.getElem?_eq_getElem hi] at en_; exact Option.some.inj en_
    have below : walker < s.heap.objs.size := Heap.lt_size get
    refine DT.nextI get raw hi fun h' out tup size' keeps => ?_
    rw [een] at out tup
    refine ⟨_, rfl, wpAny_letOwnedTupleGo_items (s := { s with heap := h' }) out fun h2 back but => ?_⟩
    have tup2 : h2.get? s.heap.objs.size = some { cls := .type "tuple", data := .seq #[en.key, en.val] } := by
      rw [but.2 _ (Nat.ne_of_gt below)]; exact tup
    have fresh := inv.hok.fresh (Nat.le_refl s.heap.objs.size)
    have isTup : ObjOk X.prog X.w (upd H s.heap.objs.size (.tup [kx, v])) h2 s.heap.objs.size (.tup [kx, v]) :=
      ⟨by simp [sizeLine_eq], [en.key, en.val], .cons rk (.cons rv .nil), _, tup2, rfl, _, rfl⟩
    have inv2 : Inv X pins σ (upd H s.heap.objs.size (.tup [kx, v])) { s with heap := h2 } := by
      refine inv.turnedNew (t' := s.toks) (ch := [walker]) (fun b ob ne q => ?_) foot (Nat.le_refl _) isTup
      have ne' : b ≠ walker := fun z => ne (List.mem_singleton.mpr z)
      rw [but.2 b ne']; exact keeps b ob ne' q
    refine ⟨.ref s.heap.objs.size, _, inv2, rfl, ⟨_, kd, kx, v, at_, kk, rfl, fresh, rfl⟩, ⟨_, _, back⟩, fun b member => ?_⟩
    obtain rfl := List.mem_singleton.mp member
    rw [upd_ne (Nat.ne_of_lt below)]
    exact (foot b (List.mem_singleton.mpr rfl)).1
/-- for k, v in d.items(), d locked -/
theorem pi_pairs {e : Expr} {td : TE} {ap cp tp : Pos} {names : List Expr} {star : Nat} (he : PE X e td) (hbase : attributeBase e "items" X.env (eval e X.env) = eval e X.env := by rfl) (hline : (ap.endLine == cp.line) = true := by rfl) :
    PI X (.Tuple names star tp) (.Call (.Attribute e "items" ap) [] [] cp) (fun σ H R => td σ H fun x H1 => ∃ d o vs, x = .ref d ∧ FzD H1 d o vs ∧ R (ItZ d o vs) H1) := by
  refine ⟨fun pins s σ H R inv told => ?_⟩
  refine wpAny_Call_method0_late hbase hline (thn (he.run pins s σ H _ inv told) fun w s1 ⟨x, H1, inv1, rel, d, o, vs, ex, z, q⟩ => ?_)
  subst ex
  obtain rfl : w = Value.ref d := rel
  obtain ⟨hs, es, ep, dat, raw, size, nod, _⟩ := fz_raw inv1 z
  refine ⟨"dict", "dict.items", F.plainAttrs_dict, F.slot_dict_items, F.type_dict_items, raw.typeIs, fun b eb => ?_, ?_⟩
  · cases eb
    obtain ⟨ob, get, ex, _⟩ := raw
    exact ⟨ob, get, ex.2.1⟩
  · refine Calls.callWith_builtin rfl (PySem.evalArgs_none (DT.callItems hs raw ?_))
    have inv2 : Inv X pins σ H1 { s1 with heap := s1.heap.push { cls := .type "dict_items", data := .fields #[.ref d] } } := inv1.kept (t' := s1.toks) fun b ob q => Heap.get?_push_of_some _ q
    refine DT.iterI (d := d) (es := es) (ep := ep) ⟨_, Heap.get?_push_size _ rfl, rfl, rfl⟩ (raw.push _) ?_
    exact pi_one (tk := s1.toks) inv2 _ (turn_pairs _ dat) ⟨.none, .none, Heap.get?_push_size _ rfl⟩ q
/-! ### walks of a dict -/
theorem pe_lockM {e : Expr} {td : TE} (he : PE X e td) : PE X e (fun σ H Q => td σ H fun x H1 => (∃ d u, x = .ref d ∧ H1 d = some u ∧ Mut (some u) ∧ ∀ od, Q x (upd H1 d (.frz od u))) ∨ Q x H1) := ⟨fun pins s σ H Q inv told => thn (he.run pins s σ H _ inv told) fun v s1 ⟨x, H1, inv1, rel, q⟩ => by
  rcases q with ⟨d, u, ex, look, mu, q⟩ | q
  · obtain ⟨od, inv2⟩ := inv1.lock look mu
    exact ⟨x, _, inv2, rel, q od⟩
  · exact ⟨x, H1, inv1, rel, q⟩⟩
def lockW (S : Store) (w : W) : Store := match w with
  | .loc n => match S[n]? with
    | some (.dic ws) => S.set n (.fz ws)
    | _ => S
  | _ => S
theorem FzD.mono {d : Addr} {o : Obj} {vs : List (PyData × V)} {H' : Hp} (same : Same H H') (z : FzD H d o vs) : FzD H' d o vs := by
  cases z with
  | k e => exact .k (same _ _ e)
  | t e => exact .t (same _ _ e)
theorem dic_lock {ws : List (PyData × W)} {w : W} {x : V} (s : Sim g bs ρ F N S H) (r : Is g.K ρ F x w) (h : dicOf S w = some ws) : ∃ d vs, x = .ref d ∧
    ((∃ u, H d = some u ∧ Mut (some u) ∧ ∀ od, ∃ F2, Grow ρ F ρ F2 ∧ Sim g bs ρ F2 N (lockW S w) (upd H d (.frz od u)) ∧ FzD F2 d od vs ∧ IsKV g.K ρ F2 vs ws) ∨
      ∃ od, lockW S w = S ∧ FzD F d od vs ∧ IsKV g.K ρ F vs ws) := by
  cases w with
  | dat d =>
    cases d <;> simp only [dicOf] at h <;> try cases h
    cases r with
    | dat r => cases r with
      | dicK e q => exact ⟨_, _, rfl, .inr ⟨_, rfl, .k e, q.isKV⟩⟩
      | dicT e q => exact ⟨_, _, rfl, .inr ⟨_, rfl, .t e, q.isKV⟩⟩
  | loc n =>
    cases r with
    | loc hn =>
      simp only [dicOf] at h
      split at h
      · rename_i us hS
        cases h
        have el : lockW S (.loc n) = S.set n (.fz ws) := by simp only [lockW, hS]
        rw [el]
        have fa := s.fr n _ _ hS hn rfl
        rcases s.cell n _ _ hS hn with ⟨kvs, e, q⟩ | ⟨kvs, e, q⟩
        · refine ⟨_, kvs.map (fun p => (kD p.1, p.2)), rfl, .inl ⟨_, e, True.intro, fun od => ?_⟩⟩
          have gr0 : Grow ρ F ρ (upd F _ (.frz od (.dK kvs))) := ⟨⟨[], by simp⟩, same_new fa⟩
          obtain ⟨s2, gr⟩ := s.freeze (u := .dK kvs) (od := od) hS hn (.inl ⟨od, kvs, upd_same, upd_same, q.mono gr0⟩)
          exact ⟨_, gr, s2, .k upd_same, q.mono gr⟩
        · refine ⟨_, kvs.map (fun p => (.tuple (p.1.map kD), p.2)), rfl, .inl ⟨_, e, True.intro, fun od => ?_⟩⟩
          have gr0 : Grow ρ F ρ (upd F _ (.frz od (.dT kvs))) := ⟨⟨[], by simp⟩, same_new fa⟩
          obtain ⟨s2, gr⟩ := s.freeze (u := .dT kvs) (od := od) hS hn (.inr ⟨od, kvs, upd_same, upd_same, q.mono gr0⟩)
          exact ⟨_, gr, s2, .t upd_same, q.mono gr⟩
      · rename_i us hS
        cases h
        have el : lockW S (.loc n) = S := by simp only [lockW, hS]
        rcases s.cell n _ _ hS hn with ⟨o, kvs, _, f, q⟩ | ⟨o, kvs, _, f, q⟩
        · exact ⟨_, _, rfl, .inr ⟨o, el, .k f, q⟩⟩
        · exact ⟨_, _, rfl, .inr ⟨o, el, .t f, q⟩⟩
      · cases h
  | tw us => simp [dicOf] at h
  | lw us => simp [dicOf] at h
  | kt us => simp [dicOf] at h
theorem IsKV.get {K : PySem.W.Frag} : ∀ {ws : List (PyData × W)} {vs : List (PyData × V)} {i : Nat} {k : PyData} {w : W}, IsKV K ρ F vs ws → ws[i]? = some (k, w) → ∃ v, vs[i]? = some (k, v) ∧ Is K ρ F v w
  | _, _, i, k, w, .nil, h => by simp at h
  | _, _, 0, k, w, .cons a b, h => by
    simp only [List.getElem?_cons_zero, Option.some.injEq, Prod.mk.injEq] at h
    obtain ⟨rfl, rfl⟩ := h
    exact ⟨_, rfl, a⟩
  | _, _, i + 1, k, w, .cons a b, h => by
    simp only [List.getElem?_cons_succ] at h ⊢
    exact IsKV.get b h
theorem rpAll_keys {K : PySem.W.Frag} : ∀ ks : List Key, RpAll K F (ks.map kV) (ks.map kD)
  | [] => .nil
  | .inl i :: ks => .cons (.int i) (rpAll_keys ks)
  | .inr x :: ks => .cons (.str x) (rpAll_keys ks)
theorem key_rp {kd : PyData} {kx : V} (s : Sim g bs ρ F N S H) (k : KeyV H kd kx) : ∃ F1, Grow ρ F ρ F1 ∧ Sim g bs ρ F1 N S H ∧ Rp g.K F1 kx kd := by
  rcases k with ⟨k, rfl, rfl⟩ | ⟨ks, q, rfl, rfl, look⟩
  · refine ⟨F, Grow.refl _ _, s, ?_⟩
    cases k with
    | inl i => exact .int i
    | inr x => exact .str x
  · obtain ⟨F1, gr, s1, at_⟩ := s.absorb look
    exact ⟨F1, gr, s1, .tup at_ (rpAll_keys ks)⟩
theorem walk_pairs {d : Addr} {o : Obj} {vs : List (PyData × V)} {ws : List (PyData × W)} (z : FzD F d o vs) (l : IsKV g.K ρ F vs ws) : WalkOk g (ItZ d o vs) ρ F (.items (ws.map fun p => mkTup [.dat p.1, p.2])) := by
  intro bs ρ' F' N' S' H' i gr s
  have z' : FzD H' d o vs := (z.mono gr.ex).mono s.ex
  show match (some (ws.map fun p => mkTup [.dat p.1, p.2])[i]? : Option (Option W)) with
    | some (some w) => _
    | some none => _
    | none => True
  rw [List.getElem?_map]
  cases hw : ws[i]? with
  | none => exact ⟨z', by rw [l.len]; exact List.getElem?_eq_none_iff.mp hw⟩
  | some p =>
    obtain ⟨k, w⟩ := p
    obtain ⟨v, hv, rv⟩ := l.get hw
    refine ⟨⟨z', (List.getElem?_eq_some_iff.mp hv).1⟩, fun x H2 told => ?_⟩
    obtain ⟨T, kd, kx, v', at_, kk, rfl, free, rfl⟩ := told
    rw [hv] at at_; cases at_
    obtain ⟨F1, g1, s1, rk⟩ := key_rp s kk
    obtain ⟨s2, g2⟩ := s1.frozen (o := .tup [kx, v]) free
    exact ⟨_, g1.trans g2, s2, is_mkTup upd_same (.cons (.dat (rk.mono g2.ex)) (.cons (((rv.mono gr).mono g1).mono g2) .nil))⟩
def mPairs (m : M W) : M Iter := fun bs env S => (m bs env S).bind fun w S1 => match dicOf S1 w with
  | some ws => .ok (.items (ws.map fun p => mkTup [.dat p.1, p.2])) (lockW S1 w)
  | none => .stuck
theorem ri_pairs {e : Expr} {ma : M W} {ap cp tp : Pos} {names : List Expr} {star : Nat} (he : PE X e (rd g B ma)) (hbase : attributeBase e "items" X.env (eval e X.env) = eval e X.env := by rfl) (hline : (ap.endLine == cp.line) = true := by rfl) :
    PI X (.Tuple names star tp) (.Call (.Attribute e "items" ap) [] [] cp) (rdI g B (mPairs ma)) := (pi_pairs (pe_lockM he) hbase hline).imp fun σ H R ⟨bs, ρ, F, N, env, S, s, e, p⟩ => by
  refine ⟨bs, ρ, F, N, env, S, s, e, (Post.iter (R := RW g) p).imp fun x H1 ⟨ρ1, F1, wx, S1, g1, s1, r1, p1⟩ => ?_⟩
  split at p1
  · rename_i ws hd
    obtain ⟨d, vs, rfl, told⟩ := dic_lock s1 r1 hd
    rcases told with ⟨u, look, mu, told⟩ | ⟨od, el, z, l⟩
    · refine .inl ⟨d, u, rfl, look, mu, fun od => ?_⟩
      obtain ⟨F2, g2, s2, z, l⟩ := told od
      exact ⟨d, od, vs, rfl, z.mono s2.ex, p1 ρ1 F2 _ _ g2 s2 (walk_pairs z l)⟩
    · rw [el] at p1
      exact .inr ⟨d, od, vs, rfl, z.mono s1.ex, p1 ρ1 F1 _ _ (Grow.refl _ _) s1 (walk_pairs z l)⟩
  · exact p1.elim
theorem walk_keysK {d : Addr} {o : Obj} {kvs : List (Key × V)} {ws : List (PyData × W)} (z : F d = some (.frz o (.dK kvs))) (l : IsKV g.K ρ F (kvs.map fun p => (kD p.1, p.2)) ws) : WalkOk g (Itk d o kvs) ρ F (.items (ws.map fun p => .dat p.1)) := by
  intro bs ρ' F' N' S' H' i gr s
  have z' : H' d = some (.frz o (.dK kvs)) := s.ex _ _ (gr.ex _ _ z)
  have hl := l.len
  rw [List.length_map] at hl
  show match (some (ws.map fun p => W.dat p.1)[i]? : Option (Option W)) with
    | some (some w) => _
    | some none => _
    | none => True
  rw [List.getElem?_map]
  cases hw : ws[i]? with
  | none => exact ⟨z', by rw [hl]; exact List.getElem?_eq_none_iff.mp hw⟩
  | some p =>
    obtain ⟨k, w⟩ := p
    obtain ⟨v, hv, rv⟩ := l.get hw
    refine ⟨⟨z', by rw [hl]; exact (List.getElem?_eq_some_iff.mp hw).1⟩, fun x H2 told => ?_⟩
    obtain ⟨rfl, k', v', at_, rfl⟩ := told
    rw [List.getElem?_map, at_] at hv
    cases hv
    obtain ⟨F1, g1, s1, rk⟩ := key_rp s (.inl ⟨k', rfl, rfl⟩)
    exact ⟨F1, g1, s1, .dat rk⟩
theorem walk_keysT {d : Addr} {o : Obj} {kvs : List (List Key × V)} {ws : List (PyData × W)} (z : F d = some (.frz o (.dT kvs))) (l : IsKV g.K ρ F (kvs.map fun p => (.tuple (p.1.map kD), p.2)) ws) : WalkOk g (Itkt d o kvs) ρ F (.items (ws.map fun p => .dat p.1)) := by
  intro bs ρ' F' N' S' H' i gr s
  have z' : H' d = some (.frz o (.dT kvs)) := s.ex _ _ (gr.ex _ _ z)
  have hl := l.len
  rw [List.length_map] at hl
  show match (some (ws.map fun p => W.dat p.1)[i]? : Option (Option W)) with
    | some (some w) => _
    | some none => _
    | none => True
  rw [List.getElem?_map]
  cases hw : ws[i]? with
  | none => exact ⟨z', by rw [hl]; exact List.getElem?_eq_none_iff.mp hw⟩
  | some p =>
    obtain ⟨k, w⟩ := p
    obtain ⟨v, hv, rv⟩ := l.get hw
    refine ⟨⟨z', by rw [hl]; exact (List.getElem?_eq_some_iff.mp hw).1⟩, fun x H2 told => ?_⟩
    obtain ⟨rfl, k', v', q, at_, rfl, look⟩ := told
    rw [List.getElem?_map, at_] at hv
    cases hv
    obtain ⟨F1, g1, s1, rk⟩ := key_rp s (.inr ⟨k', q, rfl, rfl, look⟩)
    exact ⟨F1, g1, s1, .dat rk⟩
theorem walk_vals {d : Addr} {o : Obj} {kvs : List (Key × V)} {ws : List (PyData × W)} (z : F d = some (.frz o (.dK kvs))) (l : IsKV g.K ρ F (kvs.map fun p => (kD p.1, p.2)) ws) : WalkOk g (Itd d o kvs) ρ F (.items (ws.map fun p => p.2)) := by
  intro bs ρ' F' N' S' H' i gr s
  have z' : H' d = some (.frz o (.dK kvs)) := s.ex _ _ (gr.ex _ _ z)
  have hl := l.len
  rw [List.length_map] at hl
  show match (some (ws.map fun p => p.2)[i]? : Option (Option W)) with
    | some (some w) => _
    | some none => _
    | none => True
  rw [List.getElem?_map]
  cases hw : ws[i]? with
  | none => exact ⟨z', by rw [hl]; exact List.getElem?_eq_none_iff.mp hw⟩
  | some p =>
    obtain ⟨k, w⟩ := p
    obtain ⟨v, hv, rv⟩ := l.get hw
    refine ⟨⟨z', by rw [hl]; exact (List.getElem?_eq_some_iff.mp hw).1⟩, fun x H2 told => ?_⟩
    obtain ⟨rfl, k', at_⟩ := told
    rw [List.getElem?_map, at_] at hv
    cases hv
    exact ⟨F', Grow.refl _ _, s, rv.mono gr⟩
/-- for k in d -/
def mKeysD (m : M W) : M Iter := fun bs env S => (m bs env S).bind fun w S1 => match dicOf S1 w with
  | some ws => .ok (.items (ws.map fun p => .dat p.1)) (lockW S1 w)
  | none => .stuck
theorem ri_keys {e tg : Expr} {ma : M W} (he : PE X e (rd g B ma)) : PI X tg e (rdI g B (mKeysD ma)) := (pi_keys (pe_lockM he)).imp fun σ H R ⟨bs, ρ, F, N, env, S, s, e, p⟩ => by
  refine ⟨bs, ρ, F, N, env, S, s, e, (Post.iter (R := RW g) p).imp fun x H1 ⟨ρ1, F1, wx, S1, g1, s1, r1, p1⟩ => ?_⟩
  split at p1
  · rename_i ws hd
    obtain ⟨d, vs, rfl, told⟩ := dic_lock s1 r1 hd
    rcases told with ⟨u, look, mu, told⟩ | ⟨od, el, z, l⟩
    · refine .inl ⟨d, u, rfl, look, mu, fun od => ⟨d, od, rfl, ?_⟩⟩
      obtain ⟨F2, g2, s2, z, l⟩ := told od
      cases z with
      | k f => exact .inl ⟨_, s2.ex _ _ f, p1 ρ1 F2 _ _ g2 s2 (walk_keysK f l)⟩
      | t f => exact .inr ⟨_, s2.ex _ _ f, p1 ρ1 F2 _ _ g2 s2 (walk_keysT f l)⟩
    · rw [el] at p1
      refine .inr ⟨d, od, rfl, ?_⟩
      cases z with
      | k f => exact .inl ⟨_, s1.ex _ _ f, p1 ρ1 F1 _ _ (Grow.refl _ _) s1 (walk_keysK f l)⟩
      | t f => exact .inr ⟨_, s1.ex _ _ f, p1 ρ1 F1 _ _ (Grow.refl _ _) s1 (walk_keysT f l)⟩
  · exact p1.elim
/-- d.values(), no key a tuple -/
def mValsD (m : M W) : M Iter := fun bs env S => (m bs env S).bind fun w S1 => match dicOf S1 w with
  | some ws => if dicRdy S1 w ws (.one (.inl 0)) = true ∧ ws.isEmpty = false then .ok (.items (ws.map fun p => p.2)) (lockW S1 w) else .stuck
  | none => .stuck
theorem fz_one {d : Addr} {o : Obj} {vs : List (PyData × V)} {ws : List (PyData × W)} {w : W} (z : FzD F d o vs) (l : IsKV g.K ρ F vs ws) (h : dicRdy S w ws (.one (.inl 0)) = true) (ne : ws.isEmpty = false) : ∃ kvs : List (Key × V), vs = kvs.map (fun p => (kD p.1, p.2)) ∧ F d = some (.frz o (.dK kvs)) := by
  cases z with
  | @k kvs f => exact ⟨kvs, rfl, f⟩
  | @t kvs f =>
    have := kind_of (H := F) (a := d) (k := .one (.inl 0)) (.t (.inr ⟨o, f⟩)) l (by
      unfold dicRdy at h
      rw [Bool.and_eq_true] at h
      exact h.1) ne
    cases this
theorem ri_vals {e tg : Expr} {ma : M W} {ap cp : Pos} (he : PE X e (rd g B ma)) (hbase : attributeBase e "values" X.env (eval e X.env) = eval e X.env := by rfl) (hline : (ap.endLine == cp.line) = true := by rfl) :
    PI X tg (.Call (.Attribute e "values" ap) [] [] cp) (rdI g B (mValsD ma)) := (pi_values (pe_lockM he) hbase hline).imp fun σ H R ⟨bs, ρ, F, N, env, S, s, e, p⟩ => by
  refine ⟨bs, ρ, F, N, env, S, s, e, (Post.iter (R := RW g) p).imp fun x H1 ⟨ρ1, F1, wx, S1, g1, s1, r1, p1⟩ => ?_⟩
  split at p1
  · rename_i ws hd
    split at p1
    · rename_i ok
      obtain ⟨d, vs, rfl, told⟩ := dic_lock s1 r1 hd
      rcases told with ⟨u, look, mu, told⟩ | ⟨od, el, z, l⟩
      · refine .inl ⟨d, u, rfl, look, mu, fun od => ?_⟩
        obtain ⟨F2, g2, s2, z, l⟩ := told od
        obtain ⟨kvs, rfl, f⟩ := fz_one z l ok.1 ok.2
        exact ⟨d, od, kvs, rfl, s2.ex _ _ f, p1 ρ1 F2 _ _ g2 s2 (walk_vals f l)⟩
      · rw [el] at p1
        obtain ⟨kvs, rfl, f⟩ := fz_one z l ok.1 ok.2
        exact .inr ⟨d, od, kvs, rfl, s1.ex _ _ f, p1 ρ1 F1 _ _ (Grow.refl _ _) s1 (walk_vals f l)⟩
    · exact p1.elim
  · exact p1.elim
end
end Rf

namespace Rf
open PySem L2 PyProof.Rows

/-! ### a key in a dict; a copy of a dict -/
def inDF (neg : Bool) : Op2 := fun _ x y S => match x, dicOf S y with
  | .dat d, some ws => match dkey d with
    | some k => if dicRdy S y ws k = true then some (.bl ((lookW ws k).isSome != neg), S) else none
    | none => none
  | _, _ => none
/-- values that are all data -/
def allDatKV : List (PyData × W) → Option (List (PyData × PyData))
  | [] => some []
  | (k, .dat d) :: ws => (allDatKV ws).map ((k, d) :: ·)
  | _ :: _ => none
def newD (k : Bool) (ws : List (PyData × W)) (S : Store) : Option (W × Store) := if k then some (.loc S.length, S ++ [.dic ws]) else (allDatKV ws).map fun kvs => (.dat (.dict kvs), S)
/-- dict(d), no key a tuple -/
def copyF (k : Bool) : OpN := fun _ ws S => match ws with
  | [w] => match dicOf S w with
    | some us => if dicRdy S w us (.one (.inl 0)) = true then newD k us S else none
    | none => none
  | _ => none
section
variable {X : Cx} {g : Gx} {B : WX} {bs : List Nat} {ρ : List Addr} {F N H : Hp} {S : Store} {σ : L2.St}
theorem in_dic {neg : Bool} {pins : List (Addr × Obj)} {sh : Shared} {x y : V} {v u : Value} {Q : VK} (hu : X.A.units + 100 < cLine) (I : Inv X pins σ H sh) (rx : RelV x v) (ry : RelV y u) (told : rd2 g (inDF neg) x y H Q) :
    ∃ (a : Addr) (o : Option V) (H' : Hp), y = .ref a ∧ Inv X pins σ H' sh ∧ DGet H' a x o ∧ Q (.bl (o.isSome != neg)) H' := by
  obtain ⟨bs, ρ, F, N, S, wx, wy, s, r1, r2, p⟩ := told
  unfold inDF at p
  split at p
  · rename_i d ws hd
    split at p
    · rename_i k hk
      split at p
      · rename_i ok
        have e := dkey_eq hk
        subst e
        obtain ⟨H', I', s', a, vs, rfl, dh, q⟩ := dic_ready I s r2 hd ok
        have rk : Rp g.K F x k.d := by
          cases r1 with
          | dat r => exact r
        have z := isKV_val q k
        refine ⟨a, _, H', rfl, I', dic_get dh s'.ex rk rfl, ?_⟩
        cases hl : lookW ws k with
        | none => rw [hl] at z p; rw [z]; exact p ρ F H' _ (Grow.refl _ _) s' (.dat (.bl _))
        | some w => rw [hl] at z p; obtain ⟨v, h1, h2⟩ := z; rw [h1]; exact p ρ F H' _ (Grow.refl _ _) s' (.dat (.bl _))
      · exact p.elim
    · exact p.elim
  · exact p.elim
theorem ro_inD (hu : X.A.units + 100 < cLine) : OpR X (compareOp .In) (rd2 g (inDF false)) := by
  intro pins sh σ H x y v u Q I rx ry told
  obtain ⟨a, o, H', rfl, I', dg, q⟩ := in_dic hu I rx ry told
  cases ry
  exact d_in (by omega) I' dg rx fun s3 I3 => ⟨.bl o.isSome, H', I3, rfl, by simpa using q⟩
theorem ro_notInD (hu : X.A.units + 100 < cLine) : OpR X (compareOp .NotIn) (rd2 g (inDF true)) := by
  intro pins sh σ H x y v u Q I rx ry told
  obtain ⟨a, o, H', rfl, I', dg, q⟩ := in_dic hu I rx ry told
  cases ry
  exact d_notIn (by omega) I' dg rx fun s3 I3 => ⟨.bl (!o.isSome), H', I3, rfl, by simpa using q⟩
theorem rpKV_of {K : PySem.W.Frag} : ∀ {ws : List (PyData × W)} {kvs : List (PyData × PyData)} {vs : List (PyData × V)}, IsKV K ρ F vs ws → allDatKV ws = some kvs → RpKV K F vs kvs
  | [], _, _, h, e => by cases h; simp [allDatKV] at e; subst e; exact .nil
  | (k, .dat d) :: ws, _, _, h, e => by
    cases h with
    | cons a b =>
      simp only [allDatKV, Option.map_eq_some_iff] at e
      obtain ⟨kvs, e, rfl⟩ := e
      cases a with
      | dat r => exact .cons r (rpKV_of b e)
  | (k, .loc n) :: ws, _, _, h, e => by simp [allDatKV] at e
  | (k, .tw n) :: ws, _, _, h, e => by simp [allDatKV] at e
  | (k, .lw n) :: ws, _, _, h, e => by simp [allDatKV] at e
  | (k, .kt n) :: ws, _, _, h, e => by simp [allDatKV] at e
theorem call_copyK : CallR X (.type "dict") (fun us H Q => ∃ (a : Addr) (kvs : List (Key × V)), us = [.ref a] ∧ Rd H a (.dK kvs) ∧ ∀ p, H p = none → Q (.ref p) (upd H p (.dK kvs))) := by
  intro pins s σ H us vals Q inv rel ⟨a, kvs, ex, look, q⟩
  subst ex
  obtain ⟨u, rfl, ru⟩ := vals1 rel
  cases ru
  exact d_copyOf inv look fun p s' free inv' => ⟨.ref p, _, inv', rfl, q p free⟩
/-- a new dict, as a cell or for good -/
theorem rd_newD {k : Bool} {us : List (PyData × W)} {kvs : List (Key × V)} {Q : VK} {p : Addr} (s : Sim g bs ρ F N S H) (l : IsKV g.K ρ F (kvs.map fun p => (kD p.1, p.2)) us) (free : H p = none) (told : PostV g bs ρ F N Q (newD true us S)) : Q (.ref p) (upd H p (.dK kvs)) := by
  obtain ⟨s', gr⟩ := s.newCell (c := .dic us) (o := .dK kvs) free (.inl ⟨kvs, upd_same, l.mono ⟨⟨[p], rfl⟩, Same.refl F⟩⟩)
  refine told _ _ _ _ gr s' (.loc ?_)
  rw [← s.len]; simp
theorem rc_copyC : CallR X (.type "dict") (rdN g (copyF true)) := by
  intro pins sh σ H xs us Q inv rel ⟨bs, ρ, F, N, S, ws, s, l, p⟩
  unfold copyF at p
  split at p
  · rename_i w
    split at p
    · rename_i kvw hd
      split at p
      · rename_i ok
        obtain ⟨v, rfl, r⟩ := all_one l
        obtain ⟨H', inv', s', a, vs, rfl, dh, q⟩ := dic_ready inv s r hd ok
        cases dh with
        | @k kvs look => exact call_copyK pins sh σ H' _ us Q inv' rel ⟨a, kvs, rfl, look, fun p0 free => rd_newD (k := true) s' q free p⟩
      · exact p.elim
    · exact p.elim
  · exact p.elim
theorem rc_copyF : CallR X (.type "dict") (rdN g (copyF false)) := by
  intro pins sh σ H xs us Q inv rel ⟨bs, ρ, F, N, S, ws, s, l, p⟩
  unfold copyF at p
  split at p
  · rename_i w
    split at p
    · rename_i kvw hd
      split at p
      · rename_i ok
        obtain ⟨v, rfl, r⟩ := all_one l
        obtain ⟨H', inv', s', a, vs, rfl, dh, q⟩ := dic_ready inv s r hd ok
        cases he : allDatKV kvw with
        | none => simp only [newD, he] at p; exact p.elim
        | some ds =>
          simp only [newD, he] at p
          cases dh with
          | @k kvs look =>
            refine callR_lockR call_copyK pins sh σ H' _ us Q inv' rel ⟨a, kvs, rfl, look, fun p0 free => ⟨p0, _, rfl, upd_same, True.intro, fun od => ?_⟩⟩
            rw [upd_upd2]
            obtain ⟨s2, gr⟩ := s'.frozen (o := .frz od (.dK kvs)) free
            exact p _ _ _ _ gr s2 (.dat (.dicK upd_same (rpKV_of (q.mono gr) he)))
      · exact p.elim
    · exact p.elim
  · exact p.elim
/-- a sign in a text -/
def inSF (neg : Bool) : Op2 := fun _ x y S => match x, y with
  | .dat (.str c), .dat (.str z) => match c.cps.toList with
    | [c0] => some (.bl (decide (c0 ∈ z.cps.toList) != neg), S)
    | _ => none
  | _, _ => none
theorem sign_of {c : Str} {c0 : Nat} (h : c.cps.toList = [c0]) : c = ⟨#[c0]⟩ := by
  cases c with
  | mk a =>
    cases a with
    | mk l => simp at h; subst h; rfl
theorem ro_inS : OpR X (compareOp .In) (rd2 g (inSF false)) := by
  intro pins sh σ H x y v u Q I rx ry ⟨bs, ρ, F, N, S, wx, wy, s, r1, r2, p⟩
  unfold inSF at p
  split at p
  · rename_i c z
    split at p
    · rename_i c0 hc
      have e := sign_of hc
      subst e
      rw [is_str r1] at rx; rw [is_str r2] at ry
      exact op_in_sign pins sh σ H _ _ v u Q I rx ry ⟨c0, z, rfl, rfl, by simpa using p ρ F H (.bl _) (Grow.refl _ _) s (.dat (.bl _))⟩
    · exact p.elim
  · exact p.elim
theorem ro_notInS : OpR X (compareOp .NotIn) (rd2 g (inSF true)) := by
  intro pins sh σ H x y v u Q I rx ry ⟨bs, ρ, F, N, S, wx, wy, s, r1, r2, p⟩
  unfold inSF at p
  split at p
  · rename_i c z
    split at p
    · rename_i c0 hc
      have e := sign_of hc
      subst e
      rw [is_str r1] at rx; rw [is_str r2] at ry
      exact op_notIn_sign pins sh σ H _ _ v u Q I rx ry ⟨c0, z, rfl, rfl, by simpa using p ρ F H (.bl _) (Grow.refl _ _) s (.dat (.bl _))⟩
    · exact p.elim
  · exact p.elim
/-- in a list or tuple, a text, a dict -/
def inAF (neg : Bool) : Op2 := fun bs x y S => match inF neg bs x y S with
  | some r => some r
  | none => match inSF neg bs x y S with
    | some r => some r
    | none => inDF neg bs x y S
theorem op_orElse {op : Value → Value → Sem Value} {f f' : Op2} (h : OpR X op (rd2 g f)) (h' : OpR X op (rd2 g f')) : OpR X op (rd2 g fun bs x y S => match f bs x y S with
    | some r => some r
    | none => f' bs x y S) := by
  intro pins sh σ H x y v u Q I rx ry ⟨bs, ρ, F, N, S, wx, wy, s, r1, r2, p⟩
  simp only at p
  cases hf : f bs wx wy S with
  | some r => rw [hf] at p; exact h pins sh σ H x y v u Q I rx ry ⟨bs, ρ, F, N, S, wx, wy, s, r1, r2, by rw [hf]; exact p⟩
  | none => rw [hf] at p; exact h' pins sh σ H x y v u Q I rx ry ⟨bs, ρ, F, N, S, wx, wy, s, r1, r2, p⟩
theorem ro_inA (hK : g.K = X.K) (hu : X.A.units + 100 < cLine) : OpR X (compareOp .In) (rd2 g (inAF false)) := op_orElse (ro_in hK hu) (op_orElse ro_inS (ro_inD hu))
theorem ro_notInA (hK : g.K = X.K) (hu : X.A.units + 100 < cLine) : OpR X (compareOp .NotIn) (rd2 g (inAF true)) := op_orElse (ro_notIn hK hu) (op_orElse ro_notInS (ro_notInD hu))
end
end Rf

namespace Rf
open PySem L2 PyProof.Rows

/-! ### dict comprehensions, no key a tuple -/
def dcG (it : Iter) (t : TM) (c : M Bool) (ek ev : M W) : Nat → Nat → List (PyData × W) → M (List (PyData × W))
  | 0, _, _ => fun _ _ _ => .stuck
  | f + 1, i, acc => fun bs env S => match it.next i S with
    | none => .stuck
    | some none => .ok acc S
    | some (some w) => (t w bs env S).bindC fun env1 S1 => (c bs env1 S1).bindC fun b S2 =>
      if b = true then (ek bs env1 S2).bindC fun y S3 => (ev bs env1 S3).bindC fun z S4 => match y with
        | .dat d => match keyD d with
          | some k => if acc.length < 100000 then dcG it t c ek ev f (i + 1) (putW acc (.one k) z) bs env S4 else .stuck
          | none => .stuck
        | _ => .stuck
      else dcG it t c ek ev f (i + 1) acc bs env S2
def finD (k : Bool) (ws : List (PyData × W)) (S : Store) : Out W := match newD k ws S with
  | some (w, S') => .ok w S'
  | none => .stuck
def mDComp (k : Bool) (mi : M Iter) (vs : List Nat) (t : TM) (c : M Bool) (ek ev : M W) : M W := fun bs env S => (mi bs env S).bind fun it S1 =>
  (dcG it t c ek ev it.fuel 0 [] bs (wipeE env vs) S1).bind (finD k)
section
variable {X : Cx} {g : Gx} {B : WX} {bs : List Nat} {ρ : List Addr} {F N H : Hp} {S : Store} {σ : L2.St} {D : Addr}
/-- what was hidden comes to light, and is locked -/
theorem Sim.showZ {o o' : HO} (s : Sim g bs ρ F (upd N D o) S H) (hn : N D = none) (no : ∀ ps, o' ≠ .tbl ps := by exact fun _ z => nomatch z) : Sim g bs ρ (upd F D o') N S (upd H D o') ∧ Grow ρ F ρ (upd F D o') := by
  obtain ⟨h1, h3⟩ := s.nf D o upd_same
  have gr : Grow ρ F ρ (upd F D o') := ⟨⟨[], by simp⟩, same_new h1⟩
  refine ⟨⟨s.len, s.nd, fun a u e => ?_, fun n c a e1 e2 e3 => ?_, fun n c a e1 e2 => ?_, fun a u e => ?_, fun a u e => ?_, (fun a u e => s.nl a u (by rw [upd_ne (ne_of_none e hn)]; exact e)), s.bot, tabs_put s.hidNT s.tab, nt_upd s.nt no⟩, gr⟩
  · by_cases z : a = D
    · subst z; rw [upd_same] at e ⊢; exact e
    · rw [upd_ne z] at e ⊢; exact s.ex a u e
  · rw [upd_ne (ne_mem (List.mem_of_getElem? e2) h3)]; exact s.fr n c a e1 e2 e3
  · exact (s.cell n c a e1 e2).mono gr (by rw [upd_ne (ne_mem (List.mem_of_getElem? e2) h3)])
  · have z := ne_of_none e hn
    rw [upd_ne z]; exact s.hid a u (by rw [upd_ne z]; exact e)
  · have z := ne_of_none e hn
    rw [upd_ne z]; exact s.nf a u (by rw [upd_ne z]; exact e)
theorem dc_put {kvs : List (Key × V)} {acc : List (PyData × W)} {k : Key} {v : V} {w : W} (s : Sim g bs ρ F (upd N D (.dK kvs)) S H) (l : IsKV g.K ρ F (kvs.map fun p => (kD p.1, p.2)) acc) (r : Is g.K ρ F v w) :
    Sim g bs ρ F (upd N D (.dK (putK kvs k v))) S (upd H D (.dK (putK kvs k v))) ∧ IsKV g.K ρ F ((putK kvs k v).map fun p => (kD p.1, p.2)) (putW acc (.one k) w) :=
  ⟨s.rehide, put_kv kD .one (fun k => dkey_d (.one k)) (fun _ => rfl) (fun a b h => by injection h) l r⟩
theorem rd_dc {k : Bool} {mi : M Iter} {t : TM} {mc : M Bool} {mk mv : M W} {vs : List Nat} (σ : L2.St) (H : Hp) (Q Q' : VK)
    (hend : ∀ bs ρ F N S H D kvs acc, Sim g bs ρ F (upd N D (.dK kvs)) S H → N D = none → IsKV g.K ρ F (kvs.map fun p => (kD p.1, p.2)) acc → Post g B (RW g) bs ρ F N σ Q (finD k acc S) → Q' (.ref D) H)
    (h : rd g B (mDComp k mi vs t mc mk mv) σ H Q) : tDc (rdI g B mi) (rdTc g NoB vs t) (rdT g NoB mc) (rd g NoB mk) (rd g NoB mv) vs σ H Q' := by
  obtain ⟨bs, ρ, F, N, env, S, s, e, p⟩ := h
  refine ⟨bs, ρ, F, N, env, S, s, e, ?_⟩
  unfold mDComp at p
  cases hm : mi bs env S with
  | stuck => rw [hm] at p; exact p
  | ex c ws S1 => rw [hm] at p; exact p
  | ok it S1 =>
    rw [hm] at p
    intro ρ1 F1 H1 J g1 s1 wk D hD
    obtain ⟨fD, nD, rD⟩ := s1.freeN hD
    have p1 : Post g B (RW g) bs ρ1 F1 N σ Q ((dcG it t mc mk mv it.fuel 0 [] bs (wipeE env vs) S1).bind (finD k)) := Post.grow g1 p
    have ev := (e.mono g1).wipe vs
    refine ⟨fun i m H' => ∃ ρ' F' kvs acc S', Grow ρ1 F1 ρ' F' ∧ Sim g bs ρ' F' (upd N D (.dK kvs)) S' H' ∧ IsKV g.K ρ' F' (kvs.map fun p => (kD p.1, p.2)) acc ∧ Post g B (RW g) bs ρ' F' N σ Q ((dcG it t mc mk mv m i acc bs (wipeE env vs) S').bind (finD k)), ⟨it.fuel, ρ1, F1, [], [], S1, Grow.refl _ _, s1.hide hD, .nil, p1⟩, ?_⟩
    rintro i m H' ⟨ρ', F', kvs, acc, S', g', s', l', p'⟩
    cases m with
    | zero => exact p'.elim
    | succ f =>
      unfold dcG at p'
      have w := wk bs ρ' F' _ S' H' i g' s'
      cases hx : it.next i S' with
      | none => rw [hx] at p'; exact p'.elim
      | some o =>
        cases o with
        | none => simp only [hx] at p' w; exact .inl ⟨w, hend _ _ _ _ _ _ _ _ _ s' nD l' p'⟩
        | some x =>
          simp only [hx] at p' w
          refine .inr ⟨w.1, fun H2 => ∃ ρ2 F2 kvs acc S2, Grow ρ' F' ρ2 F2 ∧ Sim g bs ρ2 F2 (upd N D (.dK kvs)) S2 H2 ∧ IsKV g.K ρ2 F2 (kvs.map fun p => (kD p.1, p.2)) acc ∧ Post g B (RW g) bs ρ2 F2 N σ Q ((dcG it t mc mk mv f (i + 1) acc bs (wipeE env vs) S2).bind (finD k)), fun H2 ⟨ρ2, F2, kvs, acc, S2, g2, s2, l2, p2⟩ => ⟨f, Nat.lt_succ_self f, ρ2, F2, kvs, acc, S2, g'.trans g2, s2, l2, p2⟩, fun v H2 y => ?_⟩
          obtain ⟨F2, g2, s2, r2⟩ := w.2 v H2 y
          have p2 := Post.grow g2 p'
          refine ⟨bs, ρ', F2, _, _, S', x, s2, (ev.mono g').mono g2, r2, PostG.bindC p2 fun ρ3 F3 H3 σ3 e3 S3 g3 s3 ev3 p3 w3 => ⟨w3.trans (wipe_wipe fun _ h => h), ?_⟩⟩
          refine ⟨bs, ρ3, F3, _, e3, S3, s3, ev3, (Post.bindC (R1 := RB) p3).imp fun b H4 ⟨ρ4, F4, b', S4, g4, s4, r4, p4⟩ => ?_⟩
          cases r4
          cases b with
          | false => exact ⟨ρ4, F4, kvs, acc, S4, (g2.trans g3).trans g4, s4, ((l'.mono g2).mono g3).mono g4, p4⟩
          | true =>
            simp only [if_true] at p4 ⊢
            refine ⟨bs, ρ4, F4, _, e3, S4, s4, ev3.mono g4, (Post.bindC (R1 := RW g) p4).imp fun yv H5 ⟨ρ5, F5, y', S5, g5, s5, r5, p5⟩ => ?_⟩
            refine ⟨bs, ρ5, F5, _, e3, S5, s5, (ev3.mono g4).mono g5, (Post.bindC (R1 := RW g) p5).imp fun zv H6 ⟨ρ6, F6, z', S6, g6, s6, r6, p6⟩ => ?_⟩
            split at p6
            · rename_i d
              split at p6
              · rename_i key hk
                split at p6
                · rename_i hl
                  have ek := keyD_eq hk
                  subst ek
                  have l6 := ((((l'.mono g2).mono g3).mono g4).mono g5).mono g6
                  have r5' : Rp g.K F5 yv (kD key) := by
                    cases r5 with
                    | dat r => exact r
                  obtain ⟨s7, l7⟩ := dc_put (k := key) s6 l6 r6
                  refine ⟨kvs, key, rp_key r5', s6.hid D _ upd_same, ?_, ρ6, F6, _, _, S6, (((g2.trans g3).trans g4).trans g5).trans g6, s7, l7, p6⟩
                  have := l'.len
                  rw [List.length_map] at this
                  rw [this]; exact Nat.lt_of_lt_of_le hl (by decide)
                · exact p6.elim
              · exact p6.elim
            · exact p6.elim
theorem end_cell {Q : VK} {kvs : List (Key × V)} {acc : List (PyData × W)} (s : Sim g bs ρ F (upd N D (.dK kvs)) S H) (hn : N D = none) (l : IsKV g.K ρ F (kvs.map fun p => (kD p.1, p.2)) acc) (p : Post g B (RW g) bs ρ F N σ Q (finD true acc S)) : Q (.ref D) H := by
  obtain ⟨s', gr⟩ := s.showC (c := .dic acc) hn (.inl ⟨kvs, s.hid D _ upd_same, l.mono ⟨⟨[D], rfl⟩, Same.refl F⟩⟩)
  refine p _ _ _ _ gr s' (.loc ?_)
  show (ρ ++ [D])[S.length]? = some D
  rw [← s.len]; simp
theorem end_frz {Q : VK} {kvs : List (Key × V)} {acc : List (PyData × W)} (s : Sim g bs ρ F (upd N D (.dK kvs)) S H) (hn : N D = none) (l : IsKV g.K ρ F (kvs.map fun p => (kD p.1, p.2)) acc) (p : Post g B (RW g) bs ρ F N σ Q (finD false acc S)) :
    ∃ d u, V.ref D = .ref d ∧ H d = some u ∧ Mut (some u) ∧ ∀ od, Q (.ref D) (upd H d (.frz od u)) := by
  refine ⟨D, _, rfl, s.hid D _ upd_same, True.intro, fun od => ?_⟩
  unfold finD newD at p
  cases he : allDatKV acc with
  | none => simp only [he] at p; exact p.elim
  | some ds =>
    simp only [he] at p
    obtain ⟨s', gr⟩ := s.showZ (o' := .frz od (.dK kvs)) hn
    exact p _ _ _ _ gr s' (.dat (.dicK upd_same (rpKV_of (l.mono gr) he)))
theorem re_dcC {kx vx tg iter : Expr} {ifs : List Expr} {scope : Scope} {own : List (Str × Nat)} {pos : Pos} {mi : M Iter} {t : TM} {mc : M Bool} {mk mv : M W} (hc : X.calm = true) (hN : X.N.Nodup) (ok : BlkOk X.N X.env.scope scope own) (hi : PI X tg iter (rdI g B mi))
    (hg : ∀ (s : Shared) (H : Hp) (C : Addr) (cl : List (Str × Addr)) (fp : List Addr), PG (X.blk s H scope (compEnvC scope cl C X.env) fp) tg (rdTc g NoB (own.map (·.2)) t)) (ht : ∀ (s : Shared) (H : Hp) (C : Addr) (cl : List (Str × Addr)) (fp : List Addr), PTs (X.blk s H scope (compEnvC scope cl C X.env) fp) ifs (rdT g NoB mc))
    (hk : ∀ (s : Shared) (H : Hp) (C : Addr) (cl : List (Str × Addr)) (fp : List Addr), PE (X.blk s H scope (compEnvC scope cl C X.env) fp) kx (rd g NoB mk)) (hv : ∀ (s : Shared) (H : Hp) (C : Addr) (cl : List (Str × Addr)) (fp : List Addr), PE (X.blk s H scope (compEnvC scope cl C X.env) fp) vx (rd g NoB mv))
    (hs : ∀ x, foldedSetIterable iter X.env x = pure x := by intro _; rfl) :
    PE X (.DictComp kx vx [⟨tg, iter, ifs, 0⟩] scope pos) (rd g B (mDComp true mi (own.map (·.2)) t mc mk mv)) := (pe_dc hc hN hi ok hg ht hk hv hs).imp fun σ H Q h =>
  rd_dc σ H Q Q (fun bs ρ F N S H D kvs acc s hn l p => end_cell s hn l p) h
theorem re_dcF {kx vx tg iter : Expr} {ifs : List Expr} {scope : Scope} {own : List (Str × Nat)} {pos : Pos} {mi : M Iter} {t : TM} {mc : M Bool} {mk mv : M W} (hc : X.calm = true) (hN : X.N.Nodup) (ok : BlkOk X.N X.env.scope scope own) (hi : PI X tg iter (rdI g B mi))
    (hg : ∀ (s : Shared) (H : Hp) (C : Addr) (cl : List (Str × Addr)) (fp : List Addr), PG (X.blk s H scope (compEnvC scope cl C X.env) fp) tg (rdTc g NoB (own.map (·.2)) t)) (ht : ∀ (s : Shared) (H : Hp) (C : Addr) (cl : List (Str × Addr)) (fp : List Addr), PTs (X.blk s H scope (compEnvC scope cl C X.env) fp) ifs (rdT g NoB mc))
    (hk : ∀ (s : Shared) (H : Hp) (C : Addr) (cl : List (Str × Addr)) (fp : List Addr), PE (X.blk s H scope (compEnvC scope cl C X.env) fp) kx (rd g NoB mk)) (hv : ∀ (s : Shared) (H : Hp) (C : Addr) (cl : List (Str × Addr)) (fp : List Addr), PE (X.blk s H scope (compEnvC scope cl C X.env) fp) vx (rd g NoB mv))
    (hs : ∀ x, foldedSetIterable iter X.env x = pure x := by intro _; rfl) :
    PE X (.DictComp kx vx [⟨tg, iter, ifs, 0⟩] scope pos) (rd g B (mDComp false mi (own.map (·.2)) t mc mk mv)) := (pe_lockR (pe_dc hc hN hi ok hg ht hk hv hs)).imp fun σ H Q h =>
  rd_dc σ H Q _ (fun bs ρ F N S H D kvs acc s hn l p => end_frz s hn l p) h
end
end Rf

namespace Rf
open PySem L2 PyProof.Rows

/-! ### displays of dicts, no key a tuple -/
inductive IsPs (K : PySem.W.Frag) (ρ : List Addr) (F : Hp) : List (V × V) → List (W × W) → Prop
  | nil : IsPs K ρ F [] []
  | cons {x y : V} {a b : W} {xs : List (V × V)} {l : List (W × W)} : Is K ρ F x a → Is K ρ F y b → IsPs K ρ F xs l → IsPs K ρ F ((x, y) :: xs) ((a, b) :: l)
def mPs : List (M W × M W) → M (List (W × W))
  | [] => fun _ _ S => .ok [] S
  | p :: r => fun bs env S => (p.1 bs env S).bind fun x S1 => (p.2 bs env S1).bind fun y S2 => (mPs r bs env S2).bind fun l S3 => .ok ((x, y) :: l) S3
def keyedW : List (W × W) → Option (List (Key × W))
  | [] => some []
  | (.dat d, w) :: r => match keyD d, keyedW r with
    | some k, some l => some ((k, w) :: l)
    | _, _ => none
  | _ :: _ => none
def mergeW (acc : List (PyData × W)) (l : List (Key × W)) : List (PyData × W) := l.foldl (fun acc p => putW acc (.one p.1) p.2) acc
def finP (k : Bool) (l : List (W × W)) (S : Store) : Out W := match keyedW l with
  | some kws => if l.length ≤ 15 then finD k (mergeW [] kws) S else .stuck
  | none => .stuck
def mDisp (k : Bool) (ps : List (M W × M W)) : M W := fun bs env S => (mPs ps bs env S).bind (finP k)
section
variable {X : Cx} {g : Gx} {B : WX} {bs : List Nat} {ρ : List Addr} {F N H : Hp} {S : Store} {σ : L2.St} {D : Addr}
theorem Sim.unhide {o : HO} (s : Sim g bs ρ F (upd N D o) S H) (hn : N D = none) : Sim g bs ρ F N S H :=
  ⟨s.len, s.nd, s.ex, s.fr, s.cell, fun a u e => s.hid a u (by rw [upd_ne (ne_of_none e hn)]; exact e), fun a u e => s.nf a u (by rw [upd_ne (ne_of_none e hn)]; exact e), fun a u e => s.nl a u (by rw [upd_ne (ne_of_none e hn)]; exact e), s.bot, s.tab, s.nt⟩
theorem Post.bindH {α β γ δ : Type} {R1 : List Addr → Hp → β → α → Prop} {R2 : List Addr → Hp → δ → γ → Prop} {Q : δ → Hp → Prop} {o : Out α} {f : α → Store → Out γ} {u : HO} (hn : N D = none) (h : Post g B R2 bs ρ F N σ Q (o.bind f)) :
    Post g B R1 bs ρ F (upd N D u) σ (fun v H1 => ∃ ρ' F' a S', Grow ρ F ρ' F' ∧ Sim g bs ρ' F' (upd N D u) S' H1 ∧ R1 ρ' F' v a ∧ Post g B R2 bs ρ' F' N σ Q (f a S')) o := by
  cases o with
  | ok a S1 => exact fun ρ' F' H' v gr s' r => ⟨ρ', F', a, S1, gr, s', r, Post.grow gr h⟩
  | ex c ws S1 => exact fun ρ' F' H' d gr s' r => h ρ' F' H' d gr (s'.unhide hn) r
  | stuck => exact h
theorem IsPs.mono {K : PySem.W.Frag} {ρ' : List Addr} {F' : Hp} (gr : Grow ρ F ρ' F') : ∀ {l : List (W × W)} {xs : List (V × V)}, IsPs K ρ F xs l → IsPs K ρ' F' xs l
  | _, _, .nil => .nil
  | _, _, .cons a b c => .cons (a.mono gr) (b.mono gr) (IsPs.mono gr c)
theorem rd_pairs {Q : VK} {u : HO} (hn : N D = none) {env : Env} : ∀ (ps : List (M W × M W)) {ρ : List Addr} {F : Hp} {S : Store} {H : Hp} (f : List (W × W) → Store → Out W), Sim g bs ρ F (upd N D u) S H → EnvR g ρ F σ env →
    Post g B (RW g) bs ρ F N σ Q ((mPs ps bs env S).bind f) → tPairs (ps.map fun p => (rd g B p.1, rd g B p.2)) σ H (fun xs H' => ∃ ρ' F' l S', Grow ρ F ρ' F' ∧ Sim g bs ρ' F' (upd N D u) S' H' ∧ IsPs g.K ρ' F' xs l ∧ Post g B (RW g) bs ρ' F' N σ Q (f l S'))
  | [], ρ, F, S, H, f, s, e, p => ⟨ρ, F, [], S, Grow.refl _ _, s, .nil, p⟩
  | q :: r, ρ, F, S, H, f, s, e, p => by
    simp only [mPs, Out.bind_assoc] at p
    refine ⟨bs, ρ, F, _, env, S, s, e, (Post.bindH (R1 := RW g) hn p).imp fun x H1 ⟨ρ1, F1, wx, S1, g1, s1, r1, p1⟩ => ?_⟩
    refine ⟨bs, ρ1, F1, _, env, S1, s1, e.mono g1, (Post.bindH (R1 := RW g) hn p1).imp fun y H2 ⟨ρ2, F2, wy, S2, g2, s2, r2, p2⟩ => ?_⟩
    have ih := rd_pairs hn r (fun l S3 => f ((wx, wy) :: l) S3) s2 ((e.mono g1).mono g2) p2
    have imp : ∀ (trs : List (TE × TE)) (σ : L2.St) (H : Hp) (Q Q' : List (V × V) → Hp → Prop), (∀ xs H', Q xs H' → Q' xs H') → (∀ t ∈ trs, (∀ σ H (A A' : VK), (∀ v H', A v H' → A' v H') → t.1 σ H A → t.1 σ H A') ∧ ∀ σ H (A A' : VK), (∀ v H', A v H' → A' v H') → t.2 σ H A → t.2 σ H A') → tPairs trs σ H Q → tPairs trs σ H Q' := by
      intro trs
      induction trs with
      | nil => exact fun σ H Q Q' k _ h => k _ _ h
      | cons t trs ih =>
        intro σ H Q Q' k m h
        exact (m t (List.mem_cons_self ..)).1 _ _ _ _ (fun v H1 h1 => (m t (List.mem_cons_self ..)).2 _ _ _ _ (fun w H2 h2 => ih σ H2 _ _ (fun xs H' z => k _ _ z) (fun t' ht' => m t' (List.mem_cons_of_mem _ ht')) h2) h1) h
    refine imp _ σ H2 _ _ (fun xs H' ⟨ρ', F', l, S', gr, s', ll, pp⟩ => ⟨ρ', F', (wx, wy) :: l, S', (g1.trans g2).trans gr, s', .cons ((r1.mono g2).mono gr) (r2.mono gr) ll, pp⟩) (fun t ht => ?_) ih
    obtain ⟨q', _, rfl⟩ := List.mem_map.mp ht
    exact ⟨fun σ H A A' k h => rdG_imp h k, fun σ H A A' k h => rdG_imp h k⟩
theorem keyed_kv {K : PySem.W.Frag} : ∀ {l : List (W × W)} {xs : List (V × V)} {kws : List (Key × W)}, IsPs K ρ F xs l → keyedW l = some kws → ∃ kvs : List (Key × V), xs = kvs.map (fun kv => (kV kv.1, kv.2)) ∧ kvs.length = l.length ∧
    ∀ (base : List (Key × V)) (acc : List (PyData × W)), IsKV K ρ F (base.map fun p => (kD p.1, p.2)) acc → IsKV K ρ F ((mergeK base kvs).map fun p => (kD p.1, p.2)) (mergeW acc kws)
  | [], _, _, h, e => by cases h; simp [keyedW] at e; subst e; exact ⟨[], rfl, rfl, fun base acc h => h⟩
  | (.dat d, w) :: r, _, _, h, e => by
    cases h with
    | @cons x y _ _ _ _ a b c =>
      simp only [keyedW] at e
      split at e
      · rename_i k l hk hl
        cases e
        obtain ⟨kvs, rfl, len, m⟩ := keyed_kv c hl
        have ed := keyD_eq hk
        subst ed
        have a' : Rp K F x (kD k) := by
          cases a with
          | dat r => exact r
        refine ⟨(k, y) :: kvs, by rw [rp_key a']; rfl, by simp [len], fun base acc q => ?_⟩
        exact m _ _ (put_kv kD .one (fun k => dkey_d (.one k)) (fun _ => rfl) (fun a b h => by injection h) q b)
      · cases e
  | (.loc _, _) :: _, _, _, h, e => by simp [keyedW] at e
  | (.tw _, _) :: _, _, _, h, e => by simp [keyedW] at e
  | (.lw _, _) :: _, _, _, h, e => by simp [keyedW] at e
  | (.kt _, _) :: _, _, _, h, e => by simp [keyedW] at e
theorem rd_disp {k : Bool} {ps : List (M W × M W)} (σ : L2.St) (H : Hp) (Q Q' : VK)
    (hend : ∀ bs ρ F N S H D kvs acc, Sim g bs ρ F (upd N D (.dK kvs)) S H → N D = none → IsKV g.K ρ F (kvs.map fun p => (kD p.1, p.2)) acc → Post g B (RW g) bs ρ F N σ Q (finD k acc S) → Q' (.ref D) H)
    (h : rd g B (mDisp k ps) σ H Q) : tDisp (ps.map fun p => (rd g B p.1, rd g B p.2)) σ H Q' := by
  obtain ⟨bs, ρ, F, N, env, S, s, e, p⟩ := h
  intro D hD
  obtain ⟨fD, nD, rD⟩ := s.freeN hD
  have t := rd_pairs nD ps (finP k) (s.hide (o := .dK []) hD) e p
  have imp : ∀ (trs : List (TE × TE)) (σ : L2.St) (H : Hp) (Q Q' : List (V × V) → Hp → Prop), (∀ xs H', Q xs H' → Q' xs H') → (∀ t ∈ trs, (∀ σ H (A A' : VK), (∀ v H', A v H' → A' v H') → t.1 σ H A → t.1 σ H A') ∧ ∀ σ H (A A' : VK), (∀ v H', A v H' → A' v H') → t.2 σ H A → t.2 σ H A') → tPairs trs σ H Q → tPairs trs σ H Q' := by
    intro trs
    induction trs with
    | nil => exact fun σ H Q Q' k _ h => k _ _ h
    | cons t trs ih =>
      intro σ H Q Q' k m h
      exact (m t (List.mem_cons_self ..)).1 _ _ _ _ (fun v H1 h1 => (m t (List.mem_cons_self ..)).2 _ _ _ _ (fun w H2 h2 => ih σ H2 _ _ (fun xs H' z => k _ _ z) (fun t' ht' => m t' (List.mem_cons_of_mem _ ht')) h2) h1) h
  refine imp _ σ _ _ _ (fun xs H' ⟨ρ', F', l, S', gr, s', ll, pp⟩ => ?_) (fun t ht => ?_) t
  · obtain ⟨q', _, rfl⟩ := List.mem_map.mp ht
    exact ⟨fun σ H A A' k h => rdG_imp h k, fun σ H A A' k h => rdG_imp h k⟩
  · unfold finP at pp
    split at pp
    · rename_i kws hk
      split at pp
      · rename_i many
        obtain ⟨kvs, ex, len, m⟩ := keyed_kv ll hk
        refine ⟨s'.hid D _ upd_same, kvs, ex, by rw [len]; exact many, ?_⟩
        exact hend _ _ _ _ _ _ _ _ _ (s'.rehide (o' := .dK (mergeK [] kvs))) nD (m [] [] .nil) pp
      · exact pp.elim
    · exact pp.elim
theorem re_dispC {keys : List (Option Expr)} {values : List Expr} {pos : Pos} {ps : List (M W × M W)} (h : PPs X pos keys values (ps.map fun p => (rd g B p.1, rd g B p.2))) (hall : keys.all (·.isSome) = true := by rfl) (hl : keys.length = values.length := by rfl) (h0 : keys ≠ [] := by exact fun z => nomatch z)
    (h15 : keys.length ≤ 15 := by decide) : PE X (.Dict keys values pos) (rd g B (mDisp true ps)) := (pe_disp h hall hl h0 h15).imp fun σ H Q t => rd_disp σ H Q Q (fun bs ρ F N S H D kvs acc s hn l p => end_cell s hn l p) t
theorem re_dispF {keys : List (Option Expr)} {values : List Expr} {pos : Pos} {ps : List (M W × M W)} (h : PPs X pos keys values (ps.map fun p => (rd g B p.1, rd g B p.2))) (hall : keys.all (·.isSome) = true := by rfl) (hl : keys.length = values.length := by rfl) (h0 : keys ≠ [] := by exact fun z => nomatch z)
    (h15 : keys.length ≤ 15 := by decide) : PE X (.Dict keys values pos) (rd g B (mDisp false ps)) := (pe_lockR (pe_disp h hall hl h0 h15)).imp fun σ H Q t => rd_disp σ H Q _ (fun bs ρ F N S H D kvs acc s hn l p => end_frz s hn l p) t
end
end Rf

namespace Rf
open PySem L2 PyProof.Rows

/-! ### range with a step -/
def stepW (i c : Int) (n : Nat) : List W := (List.range n).map fun (k : Nat) => W.int (i + (k : Int) * c)
instance (i j c : Int) (n : Nat) : Decidable (RgC i j c n) := by unfold RgC; infer_instance
section
variable {X : Cx} {tg : Expr} {g : Gx} {B : WX} {bs : List Nat} {ρ : List Addr} {F N H : Hp} {S : Store} {a b c e : Expr} {ms : M (List W)} {pos : Pos}
theorem walk_step {lo d : Int} {n : Nat} : WalkOk g (Itc lo d n) ρ F (.items (stepW lo d n)) := by
  intro bs ρ' F' N' S' H' i gr s
  show match (some (stepW lo d n)[i]? : Option (Option W)) with
    | some (some w) => _
    | some none => _
    | none => True
  unfold stepW
  rw [List.getElem?_map]
  by_cases h : i < n
  · rw [List.getElem?_range h]
    refine ⟨h, fun x H2 ⟨e, q⟩ => ?_⟩
    subst e q
    exact ⟨F', Grow.refl _ _, s, .dat (.int _)⟩
  · rw [List.getElem?_eq_none (by simpa using h)]
    show n ≤ i
    omega
def mRng3 (ms : M (List W)) : M Iter := fun bs env S => (ms bs env S).bind fun ws S1 => match ws with
  | [.dat (.int i), .dat (.int j), .dat (.int d)] => if RgC i j d (Builtin.Range.rangeSize i j d).toNat then .ok (.items (stepW i d (Builtin.Range.rangeSize i j d).toNat)) S1 else .stuck
  | _ => .stuck
theorem all_three {K : PySem.W.Frag} {vs : List V} {w u z : W} (h : IsAll K ρ F vs [w, u, z]) : ∃ v x y, vs = [v, x, y] ∧ Is K ρ F v w ∧ Is K ρ F x u ∧ Is K ρ F y z := by
  cases h with
  | cons a h => cases h with
    | cons b h => cases h with
      | cons c h => cases h; exact ⟨_, _, _, rfl, a, b, c⟩
theorem ri_range3 {p : Pos} (hg : Gl X "range") (hm : X.mg "range" = none) (ha : PA X [a, b, c] (rdA g B ms)) (hs : starEach [a, b, c] X.env = (false, eval a X.env) :: starEach [b, c] X.env := by rfl) (hpl : (backTo pos (starEach [b, c] X.env)).any (·.1) = false := by rfl) :
    PI X tg (.Call (.Name "range" p) [a, b, c] [] pos) (rdI g B (mRng3 ms)) :=
  (pi_range3 hg hm ha hs hpl).imp fun σ H R ⟨bs, ρ, F, N, env, S, s, e, p⟩ => by
    refine ⟨bs, ρ, F, N, env, S, s, e, (Post.iter (R := RWs g) p).imp fun x H1 ⟨ρ1, F1, wx, S1, g1, s1, r1, p1⟩ => ?_⟩
    split at p1
    · rename_i i j d
      split at p1
      · rename_i ok
        obtain ⟨v, u, w, rfl, r2, r3, r4⟩ := all_three r1
        rw [is_int r2, is_int r3, is_int r4]
        exact ⟨i, j, d, _, rfl, ok, p1 ρ1 F1 H1 _ (Grow.refl _ _) s1 walk_step⟩
      · exact p1.elim
    · exact p1.elim
/-- xs.index(x) of texts -/
def lidxF : OpM := fun _ x ws S => match (lstOf S x).bind strsW, ws with
  | some ys, [.dat (.str z)] => (ys.findIdx? fun y => y == z).map fun j => (.int (j : Nat), S)
  | _, _ => none
theorem mt_lidx (hK : g.K = X.K) : MtR X "list.index" (rdMt g lidxF) := by
  intro pins s σ H x xs v us Q I rx rxs ⟨bs, ρ, F, N, S, wx, ws, sim, r1, l, p⟩
  unfold lidxF at p
  split at p
  · rename_i ys z hq
    obtain ⟨zs, h1, h2⟩ := Option.bind_eq_some_iff.mp hq
    cases hj : ys.findIdx? (fun y => y == z) with
    | none => rw [hj] at p; exact p.elim
    | some j =>
      rw [hj] at p
      obtain ⟨y, rfl, ry⟩ := all_one l
      obtain ⟨a, vs, rfl, q, l2⟩ := lst_of sim r1 h1
      rw [strs_is l2 h2, hK] at q
      rw [is_str ry] at rxs
      obtain ⟨hl, hz, hno⟩ := List.findIdx?_eq_some_iff_getElem.mp hj
      refine mt_index pins s σ H _ _ v us Q I rx rxs ⟨a, ys.map V.str, .str z, j, .str ys[j], rfl, rfl, q, rfl, flat_strs ys, by simp [hl], hz, fun m z' hm hz' => ?_, p ρ F H _ (Grow.refl _ _) sim (.dat (.int _))⟩
      rw [List.getElem?_map] at hz'
      obtain ⟨y', hy', rfl⟩ := Option.map_eq_some_iff.mp hz'
      obtain ⟨hm', e⟩ := List.getElem?_eq_some_iff.mp hy'
      have := hno m hm
      subst e
      simpa [eqV] using this
  · exact p.elim
/-- a pair put into a new dict whose keys are tuples -/
theorem put_tup {pins : List (Addr × Obj)} {sh : Shared} {σ : L2.St} {E : Value → Shared → Prop} {D b : Addr} {kvs : List (List Key × V)} {k : List Key} {v : V} {r : Value} {Q : Unit → Shared → Prop} (hu : X.A.units + 1 < cLine) (inv : Inv X pins σ H sh) (look : H D = some (.dT kvs)) (few : kvs.length < sizeLine)
    (key : H b = some (.tup (k.map kV))) (rv : RelV v r) (h : ∀ s', Inv X pins σ (upd H D (.dT (putK kvs k v))) s' → Q () s') : wpAny (model X.prog X.w) X.A (dictSet D (.ref b) r) Q E sh := by
  obtain ⟨z, hs, xs, rel, at_⟩ := dt_of inv.hok look
  have size : xs.length ≤ sizeLine := by rw [← Paired.length rel]; exact z
  have size' : (putK kvs k v).length ≤ sizeLine := Nat.le_trans (length_putK kvs k v) few
  refine wpAny_dictSet_heap (hsz := size) (show X.A.units < cLine by omega) (key_of inv.hok key) at_ fun h' at2 but => h _ ?_
  obtain ⟨o, es, ep, get, ex, dat, ents, _, nd⟩ := at2
  refine d_write inv (by rw [look]; exact True.intro) but ⟨o, get⟩ ⟨size', hs, _, (rel.put k key rv).keeps fun c ys ec => ?_, o, es, ep, get, ex, dat, ents, nd⟩
  rw [upd_ne fun z => by rw [z, look] at ec; cases ec]
  exact ec
end
end Rf

namespace Rf
open PySem PySem.Spec L2 PyProof.Rows

/-! ### classes: fields, methods, instances -/
theorem guards_make {A : Around} {C : Addr} {us : List Value} {kw : List (Str × Value)} : (A.under (.builtin "type.__call__" ⟨.ref C :: us, kw⟩)).guards = A.guards := by
  show pushGuards (Code.guards (.builtin "type.__call__" ⟨.ref C :: us, kw⟩)) A.guards = A.guards
  cases A.guards <;> rfl
theorem RoomG.make {k : Nat} {A : Around} (r : RoomG (k + 1) A) (C : Addr) (us : List Value) (kw : List (Str × Value)) : RoomG k (A.under (.builtin "type.__call__" ⟨.ref C :: us, kw⟩)) := ⟨r.rm.make C us kw, guards_make.trans r.gd⟩
section
variable {X : Cx} {k : Nat} {f C : Addr} {fd : FuncData} {ps : List Str} {sp : Sp} {E : L2.St → XK} {x m : Str} {p pos apos : Pos} {e o : Expr} {es : List Expr} {ta : TE} {t : TA}
theorem run_fnG {pins : List (Addr × Obj)} {σ : L2.St} {H : Hp} {s : Shared} {Q : VK} {us : List Value} {vs : List V} (Fo : FnG X.prog X.w X.K X.mg X.base k f fd ps sp) (room : RoomG k X.A) (bind : Binds X.K fd ps []) (out : PassesAt (L2.CX X.prog X.w) X σ (E σ))
    (I : Inv X pins σ H s) (r : Vals vs us) (h : sp vs H Q (E σ)) : wpAny (model X.prog X.w) X.A (call (.ref f) us) (EP X pins σ Q) X.xe s := by
  have len : us.length = ps.length := r.length.symm.trans (Fo.cnt _ _ _ _ h)
  have b := bind s us I.kIn (by simpa using len)
  rw [List.append_nil] at b
  refine wpAny_call (codeAny_mono (Fo.go X.A X.stack s H ⟨us, []⟩ us vs Q (E σ) room I.env0 b r h) fun r s' done => ?_)
  cases r with
  | error ex => exact out pins H s ex s' I done
  | ok fl =>
    cases fl with
    | ret u => exact I.after done
    | next => exact done.elim
    | brk => exact done.elim
    | cont => exact done.elim
theorem pe_callG0 (Fo : FnG X.prog X.w X.K X.mg X.base k f fd ps sp) (room : RoomG k X.A) (hg : Gl X x) (hm : X.mg x = some (.ref f)) (hk : PySem.W.keepIn X.K (.ref f) = true) (bind : Binds X.K fd ps []) (out : ∀ σ, PassesAt (L2.CX X.prog X.w) X σ (E σ))
    (hdb : (x == ("__debug__" : Str)) = false) : PE X (.Call (.Name x p) [] [] pos) (fun σ H Q => sp [] H Q (E σ)) := by
  refine ⟨fun pins s σ H Q I h => ?_⟩
  refine wpAny_Call_Name_kw (ld_glob I hg hm ?_ hdb)
  exact PySem.W.callWith_K0 I.kIn hk (run_fnG (us := []) Fo room bind (out σ) I .nil h)
def tMethG (C : Addr) (m : Str) (sp : Sp) (E : L2.St → XK) (ta : TE) (t : TA) : TE := fun σ H Q => ta σ H fun x H1 => ∃ a dx fs, x = .ref a ∧ H1 a = some (.ins C dx fs) ∧ fs.lookup m = none ∧ t σ H1 fun vs H2 => sp (x :: vs) H2 Q (E σ)
theorem pe_methG {pl : Sem Bool} (he : PE X o ta) (c : Cls X.K C) (hm : Meth X.K C m f) (Fo : FnG X.prog X.w X.K X.mg X.base k f fd ps sp) (room : RoomG k X.A) (bind : Binds X.K fd ps []) (out : ∀ σ, PassesAt (L2.CX X.prog X.w) X σ (E σ)) (ha : PA X (e :: es) t)
    (hst : starEach (e :: es) X.env = (false, eval e X.env) :: starEach es X.env := by rfl) (hpl : (backTo pos (starEach es X.env)).any (·.1) = false := by rfl)
    (ht : eval (.Call (.Attribute o m apos) (e :: es) [] pos) X.env = (do
      let ov ← eval o X.env
      standAt apos.atName
      let (f, first) ← holding [ov] (getMethod ov m pl)
      callWith pos f first (backTo pos (starEach (e :: es) X.env)) (backToKw pos (keywordEach [] X.env))) := by rfl) :
    PE X (.Call (.Attribute o m apos) (e :: es) [] pos) (tMethG C m sp E ta t) := by
  refine ⟨fun pins s σ H Q I h => ?_⟩
  refine PySem.W.methodCall_KW (pl := pl) (thn (he.run pins s σ H _ I h) fun u s1 ⟨x, H1, I1, rx, a, dx, fs, ex, ea, l, q⟩ => ?_) ht
  subst ex
  obtain rfl : u = Value.ref a := rx
  refine getmeth_ok I1 ea c hm l ?_
  refine PySem.W.callWith_K (first := [.ref a]) (h₀ := X.base) I.ok.mod.kin hm.kp (thn (ha.run pos pins s1 σ H1 _ I1 q) fun us s2 ⟨vs, H2, I2, r, q2⟩ => ⟨I2.kIn, ?_⟩) hst hpl
  exact run_fnG (us := .ref a :: us) (vs := .ref a :: vs) Fo room bind (out σ) I2 (.cons rfl r) q2
theorem pe_methG0 {pl : Sem Bool} (he : PE X o ta) (c : Cls X.K C) (hm : Meth X.K C m f) (Fo : FnG X.prog X.w X.K X.mg X.base k f fd ps sp) (room : RoomG k X.A) (bind : Binds X.K fd ps []) (out : ∀ σ, PassesAt (L2.CX X.prog X.w) X σ (E σ))
    (ht : eval (.Call (.Attribute o m apos) [] [] pos) X.env = (do
      let ov ← eval o X.env
      standAt apos.atName
      let (f, first) ← holding [ov] (getMethod ov m pl)
      callWith pos f first (backTo pos (starEach [] X.env)) (backToKw pos (keywordEach [] X.env))) := by rfl) :
    PE X (.Call (.Attribute o m apos) [] [] pos) (tMethG C m sp E ta L2.tNil) := by
  refine ⟨fun pins s σ H Q I h => ?_⟩
  refine PySem.W.methodCall_KW (pl := pl) (thn (he.run pins s σ H _ I h) fun u s1 ⟨x, H1, I1, rx, a, dx, fs, ex, ea, l, q⟩ => ?_) ht
  subst ex
  obtain rfl : u = Value.ref a := rx
  refine getmeth_ok I1 ea c hm l ?_
  exact PySem.W.callWith_K0 (first := [.ref a]) I1.kIn hm.kp (run_fnG (us := [.ref a]) (vs := [.ref a]) Fo room bind (out σ) I1 (.cons rfl .nil) q)
def tMakeG (C : Addr) (sp : Sp) (E : L2.St → XK) (t : TA) : TE := fun σ H Q => t σ H fun vs H1 => ∀ x dx, H1 x = none → H1 dx = none → dx ≠ x → sp (.ref x :: vs) (upd (upd H1 dx (.own x)) x (.ins C dx [])) (fun v H2 => v = .non ∧ Q (.ref x) H2) (E σ)
theorem run_makeG {pins : List (Addr × Obj)} {σ : L2.St} {H : Hp} {s : Shared} {Q : VK} {us : List Value} {vs : List V} (M : Mk X.K C f) (Fo : FnG X.prog X.w X.K X.mg X.base k f fd ps sp) (room : RoomG (k + 1) X.A) (bind : Binds X.K fd ps []) (out : PassesAt (L2.CX X.prog X.w) X σ (E σ))
    (I : Inv X pins σ H s) (r : Vals vs us) (h : ∀ x dx, H x = none → H dx = none → dx ≠ x → sp (.ref x :: vs) (upd (upd H dx (.own x)) x (.ins C dx [])) (fun v H2 => v = .non ∧ Q (.ref x) H2) (E σ)) :
    wpAny (model X.prog X.w) X.A (call (.ref C) us) (EP X pins σ Q) X.xe s := by
  have hq := h (s.heap.objs.size + 1) s.heap.objs.size (I.hok.fresh (Nat.le_succ _)) (I.hok.fresh (Nat.le_refl _)) (Nat.ne_of_lt (Nat.lt_succ_self _))
  have I2 := Inv.made (C := C) I
  have r2 : Vals (V.ref (s.heap.objs.size + 1) :: vs) (Value.ref (s.heap.objs.size + 1) :: us) := .cons rfl r
  have len : (Value.ref (s.heap.objs.size + 1) :: us).length = ps.length := r2.length.symm.trans (Fo.cnt _ _ _ _ hq)
  have b := bind _ (Value.ref (s.heap.objs.size + 1) :: us) I2.kIn (by simpa using len)
  rw [List.append_nil] at b
  refine wpAny_call (make_map (f := f) I.kIn M.makes M.init (beq_iff_eq.mp M.fn) (codeAny_mono (Fo.go _ X.stack _ _ ⟨Value.ref (s.heap.objs.size + 1) :: us, []⟩ (Value.ref (s.heap.objs.size + 1) :: us) _ _ (E σ) (room.make C us [])
    (I2.env0.make C us []) b r2 hq) fun r s' hq' => ?_))
  cases r with
  | error e => exact out pins _ _ e s' I2 hq'
  | ok fl =>
    cases fl with
    | ret u =>
      obtain ⟨v, H', I3, rv, ev, q3⟩ := I2.after hq'
      subst ev
      exact ⟨rv, ⟨V.ref (s.heap.objs.size + 1), H', I3, rfl, q3⟩⟩
    | next => exact False.elim hq'
    | brk => exact False.elim hq'
    | cont => exact False.elim hq'
theorem pe_makeG (M : Mk X.K C f) (Fo : FnG X.prog X.w X.K X.mg X.base k f fd ps sp) (room : RoomG (k + 1) X.A) (hg : Gl X x) (hm : X.mg x = some (.ref C)) (bind : Binds X.K fd ps []) (out : ∀ σ, PassesAt (L2.CX X.prog X.w) X σ (E σ))
    (ha : PA X (e :: es) t) (hdb : (x == ("__debug__" : Str)) = false) (he : starEach (e :: es) X.env = (false, eval e X.env) :: starEach es X.env) (hpl : (backTo pos (starEach es X.env)).any (·.1) = false) :
    PE X (.Call (.Name x p) (e :: es) [] pos) (tMakeG C sp E t) := by
  refine ⟨fun pins s σ H Q I h => ?_⟩
  refine wpAny_Call_Name_kw (ld_glob I hg hm ?_ hdb)
  refine PySem.W.callWith_K (h₀ := X.base) I.ok.mod.kin M.kp (thn (ha.run pos pins s σ H _ I h) fun us s1 ⟨vs, H1, I1, r, q⟩ => ⟨I1.kIn, ?_⟩) he hpl
  exact run_makeG M Fo room bind (out σ) I1 r q
theorem pe_makeG0 (M : Mk X.K C f) (Fo : FnG X.prog X.w X.K X.mg X.base k f fd ps sp) (room : RoomG (k + 1) X.A) (hg : Gl X x) (hm : X.mg x = some (.ref C)) (bind : Binds X.K fd ps []) (out : ∀ σ, PassesAt (L2.CX X.prog X.w) X σ (E σ))
    (hdb : (x == ("__debug__" : Str)) = false) : PE X (.Call (.Name x p) [] [] pos) (tMakeG C sp E L2.tNil) := by
  refine ⟨fun pins s σ H Q I h => ?_⟩
  refine wpAny_Call_Name_kw (ld_glob I hg hm ?_ hdb)
  exact PySem.W.callWith_K0 I.kIn M.kp (run_makeG (us := []) M Fo room bind (out σ) I .nil h)
end
/-! ### readings -/
section
variable {K : PySem.W.Frag} {ρ : List Addr} {F : Hp}
theorem IsFs.look {f : Str} : ∀ {gs : List (Str × V)} {fs : List (Str × W)}, IsFs K ρ F gs fs → ∀ {w : W}, fs.lookup f = some w → ∃ v, gs.lookup f = some v ∧ Is K ρ F v w
  | _, _, .nil, w, h => by cases h
  | _, _, .cons (k := k) a b, w, h => by
    simp only [List.lookup] at h ⊢
    split
    · rename_i e; rw [e] at h; cases h; exact ⟨_, rfl, a⟩
    · rename_i e; rw [e] at h; exact IsFs.look b h
theorem IsFs.none {f : Str} : ∀ {gs : List (Str × V)} {fs : List (Str × W)}, IsFs K ρ F gs fs → fs.lookup f = Option.none → gs.lookup f = Option.none
  | _, _, .nil, h => rfl
  | _, _, .cons (k := k) a b, h => by
    simp only [List.lookup] at h ⊢
    split
    · rename_i e; rw [e] at h; cases h
    · rename_i e; rw [e] at h; exact IsFs.none b h
theorem IsFs.len : ∀ {gs : List (Str × V)} {fs : List (Str × W)}, IsFs K ρ F gs fs → gs.length = fs.length
  | _, _, .nil => rfl
  | _, _, .cons a b => by simp [IsFs.len b]
def putFW (f : Str) (v : W) : List (Str × W) → List (Str × W)
  | [] => [(f, v)]
  | (k, x) :: r => if k = f then (k, v) :: r else (k, x) :: putFW f v r
theorem IsFs.put {f : Str} {v : V} {w : W} (h : Is K ρ F v w) : ∀ {gs : List (Str × V)} {fs : List (Str × W)}, IsFs K ρ F gs fs → IsFs K ρ F (putF f v gs) (putFW f w fs)
  | _, _, .nil => .cons h .nil
  | _, _, .cons (k := k) a b => by
    unfold putF putFW
    split
    · exact .cons h b
    · exact .cons a (IsFs.put h b)
end
section
variable {X : Cx} {g : Gx} {B : WX} {bs : List Nat} {a b c e o : Expr} {es : List Expr} {ma mb mo mv : M W} {ms : M (List W)} {pos pos' p apos : Pos} {f m x : Str} {ff : FnT} {cs : List Nat}
/-- o.f of an instance of one of the classes cs -/
def mFld (cs : List Nat) (f : Str) (m : M W) : M W := fun bs env S => (m bs env S).bind fun w S1 => match w with
  | .loc n => match S1[n]? with
    | some (.ins c fs) => if c ∈ cs then match fs.lookup f with
        | some v => .ok v.weak S1
        | none => .stuck
      else .stuck
    | _ => .stuck
  | _ => .stuck
theorem re_fld (hK : g.K = X.K) (hc : ∀ c ∈ cs, Cls X.K (g.cls c) ∧ NoAttr X.K (g.cls c) f) (h : PE X e (rd g B ma)) (hb : attributeBase e f X.env (eval e X.env) = eval e X.env := by rfl) : PE X (.Attribute e f pos) (rd g B (mFld cs f ma)) :=
  (pe_fld h hb).imp fun σ H Q ⟨bs, ρ, F, N, env, S, s, e, p⟩ => by
    refine ⟨bs, ρ, F, N, env, S, s, e, (Post.bind (R1 := RW g) p).imp fun x H1 ⟨ρ1, F1, wx, S1, g1, s1, r1, p1⟩ => ?_⟩
    cases wx with
    | loc n =>
      cases hn : S1[n]? with
      | none => simp only [hn] at p1; exact p1.elim
      | some cell =>
        cases cell with
        | ins c fs =>
          simp only [hn] at p1
          split at p1
          · rename_i hcs
            cases hl : fs.lookup f with
            | none => rw [hl] at p1; exact p1.elim
            | some v =>
              rw [hl] at p1
              cases r1 with
              | loc hr =>
                obtain ⟨dx, gs, eH, rf⟩ := s1.cell n _ _ hn hr
                obtain ⟨u, hu, ru⟩ := rf.look hl
                exact ⟨_, _, dx, gs, u, rfl, eH, (hc c hcs).1, (hc c hcs).2, hu, p1 ρ1 F1 H1 _ (Grow.refl _ _) s1 ru.weak⟩
          · exact p1.elim
        | lst _ => simp only [hn] at p1; exact p1.elim
        | dic _ => simp only [hn] at p1; exact p1.elim
        | fz _ => simp only [hn] at p1; exact p1.elim
    | dat _ => exact p1.elim
    | tw _ => exact p1.elim
    | lw _ => exact p1.elim
    | kt _ => exact p1.elim
/-- what a store into a field does -/
def setFld (cs : List Nat) (f : Str) : List Nat → W → W → Store → Option Store := fun bs x y S => match x with
  | .loc n => match S[n]? with
    | some (.ins c fs) => if c ∈ cs ∧ fs.length < 900 ∧ mayW bs n y = true then some (S.set n (.ins c (putFW f y fs))) else none
    | _ => none
  | _ => none
theorem setFld_ok {ρ : List Addr} {F N H : Hp} {S : Store} {x y : W} {vx vy : V} {P : Hp → Prop} (hc : ∀ c ∈ cs, Cls X.K (g.cls c) ∧ NoAttr X.K (g.cls c) f) (s : Sim g bs ρ F N S H) (r1 : Is g.K ρ F vx x) (r2 : Is g.K ρ F vy y)
    (p : match setFld cs f bs x y S with | some S' => ∀ H', Sim g bs ρ F N S' H' → P H' | none => False) : ∃ a C dx gs, vx = .ref a ∧ H a = some (.ins C dx gs) ∧ Cls X.K C ∧ NoAttr X.K C f ∧ gs.length < 1000 ∧ P (upd H a (.ins C dx (putF f vy gs))) := by
  unfold setFld at p
  cases x with
  | loc n =>
    cases hn : S[n]? with
    | none => simp only [hn] at p
    | some cell =>
      cases cell with
      | ins c fs =>
        simp only [hn] at p
        by_cases hq : c ∈ cs ∧ fs.length < 900 ∧ mayW bs n y = true
        · rw [if_pos hq] at p
          cases r1 with
          | loc hr =>
            obtain ⟨dx, gs, eH, rf⟩ := s.cell n _ _ hn hr
            refine ⟨_, _, dx, gs, rfl, eH, (hc c hq.1).1, (hc c hq.1).2, by rw [rf.len]; omega, p _ (s.write hn rfl hr ⟨dx, _, upd_same, rf.put r2⟩ fun b hb hlt => ?_)⟩
            have hm := hq.2.2
            unfold mayW at hm
            rw [List.all_eq_true] at hm
            have := hm b hb
            simp only [Bool.or_eq_true, decide_eq_true_eq] at this
            have hw : y.und b = true := by
              rcases this with h | h
              · omega
              · exact h
            obtain ⟨h1, h2⟩ := s.bot b hb
            have hfs := h2 n _ hlt hn
            unfold Cell.und at hfs ⊢
            rw [List.all_eq_true] at hfs ⊢
            have key : ∀ l : List (Str × W), (∀ q ∈ l, q.2.und b = true) → ∀ q ∈ putFW f y l, q.2.und b = true := by
              intro l
              induction l with
              | nil => intro _ q hq; simp [putFW] at hq; subst hq; exact hw
              | cons z l ih =>
                obtain ⟨k, v⟩ := z
                intro hl q hq
                unfold putFW at hq
                split at hq
                · rcases List.mem_cons.mp hq with e | e
                  · subst e; exact hw
                  · exact hl q (List.mem_cons_of_mem _ e)
                · rcases List.mem_cons.mp hq with e | e
                  · subst e; exact hl _ (List.mem_cons_self ..)
                  · exact ih (fun q hq => hl q (List.mem_cons_of_mem _ hq)) q e
            exact key fs hfs
        · rw [if_neg hq] at p; exact p.elim
      | lst _ => simp only [hn] at p
      | dic _ => simp only [hn] at p
      | fz _ => simp only [hn] at p
  | dat _ => exact p.elim
  | tw _ => exact p.elim
  | lw _ => exact p.elim
  | kt _ => exact p.elim
/-- o.f = e -/
def sFld (cs : List Nat) (f : Str) (mo mv : M W) : MS := fun bs env S => (mv bs env S).so env fun y S1 => (mo bs env S1).so env fun x S2 => match setFld cs f bs x y S2 with
  | some S3 => .nx env S3
  | none => .stuck
theorem rs_fld (hK : g.K = X.K) (hc : ∀ c ∈ cs, Cls X.K (g.cls c) ∧ NoAttr X.K (g.cls c) f) (ho : PE X o (rd g B mo)) (hv : PE X e (rd g B mv)) (hs : swapsWith e (some (.Attribute o f pos')) pos.line X.env = pure false := by rfl) :
    PS X (.Assign [.Attribute o f pos'] e pos) (rdS g B (sFld cs f mo mv)) := (ps_fld ho hv hs).imp fun D σ H ⟨bs, ρ, F, N, env, S, s, e, p⟩ => by
  refine ⟨bs, ρ, F, N, env, S, s, e, (PostS.out (R := RW g) e p).imp fun y H1 ⟨ρ1, F1, wy, S1, g1, s1, r1, p1⟩ => ?_⟩
  refine ⟨bs, ρ1, F1, N, env, S1, s1, e.mono g1, (PostS.out (R := RW g) (e.mono g1) p1).imp fun x H2 ⟨ρ2, F2, wx, S2, g2, s2, r2, p2⟩ => ?_⟩
  refine setFld_ok (P := fun H' => D.nx σ H') hc s2 r2 (r1.mono g2) ?_
  cases hz : setFld cs f bs wx wy S2 with
  | none => rw [hz] at p2; exact p2
  | some S3 => rw [hz] at p2; exact fun H' s3 => p2 ρ2 F2 H' σ (Grow.refl _ _) s3 ((e.mono g1).mono g2)
/-- o.m(..), o of the class c -/
def methB (c : Nat) (m : Str) (f : FnT) (ms : M (List W)) (bs : List Nat) (env : Env) (w : W) (S1 : Store) : Out W := match w with
  | .loc n => match S1[n]? with
    | some (.ins c' fs) => if c' = c ∧ fs.lookup m = none then (ms bs env S1).bind fun ws S2 => f bs (.loc n :: ws) S2 else .stuck
    | _ => .stuck
  | _ => .stuck
def mMeth (c : Nat) (m : Str) (f : FnT) (mo : M W) (ms : M (List W)) : M W := fun bs env S => (mo bs env S).bind (methB c m f ms bs env)
variable {c : Nat} {k : Nat} {fa : Addr} {fd : FuncData} {ps : List Str}
theorem meth_post {ρ : List Addr} {F N H : Hp} {S : Store} {env : Env} {σ : L2.St} {Q : VK} {v : V} {w : W} (s : Sim g bs ρ F N S H) (e : EnvR g ρ F σ env) (r : Is g.K ρ F v w)
    (p : Post g B (RW g) bs ρ F N σ Q (methB c m ff ms bs env w S)) : ∃ a dx fs, v = .ref a ∧ H a = some (.ins (g.cls c) dx fs) ∧ fs.lookup m = none ∧ ∃ n : Nat, w = .loc n ∧ Post g B (RW g) bs ρ F N σ Q ((ms bs env S).bind fun ws S2 => ff bs (.loc n :: ws) S2) := by
  unfold methB at p
  cases w with
  | loc n =>
    cases hn : S[n]? with
    | none => simp only [hn] at p; exact p.elim
    | some cell =>
      cases cell with
      | ins c' fs =>
        simp only [hn] at p
        by_cases hq : c' = c ∧ fs.lookup m = none
        · rw [if_pos hq] at p
          obtain ⟨rfl, hl⟩ := hq
          cases r with
          | loc hr =>
            obtain ⟨dx, gs, eH, rf⟩ := s.cell n _ _ hn hr
            exact ⟨_, dx, gs, rfl, eH, rf.none hl, n, rfl, p⟩
        · rw [if_neg hq] at p; exact p.elim
      | lst _ => simp only [hn] at p; exact p.elim
      | dic _ => simp only [hn] at p; exact p.elim
      | fz _ => simp only [hn] at p; exact p.elim
  | dat _ => exact p.elim
  | tw _ => exact p.elim
  | lw _ => exact p.elim
  | kt _ => exact p.elim
theorem re_meth {pl : Sem Bool} (tk : Takes X B) (c' : Cls X.K (g.cls c)) (hm : Meth X.K (g.cls c) m fa) (Fo : FnG X.prog X.w X.K X.mg X.base k fa fd ps (spF g ff)) (hr : RoomG k X.A) (hb : Binds X.K fd ps []) (ho : PE X o (rd g B mo)) (ha : PA X (e :: es) (rdA g B ms))
    (hst : starEach (e :: es) X.env = (false, eval e X.env) :: starEach es X.env := by rfl) (hpl : (backTo pos (starEach es X.env)).any (·.1) = false := by rfl)
    (ht : eval (.Call (.Attribute o m apos) (e :: es) [] pos) X.env = (do
      let ov ← eval o X.env
      standAt apos.atName
      let (f, first) ← holding [ov] (getMethod ov m pl)
      callWith pos f first (backTo pos (starEach (e :: es) X.env)) (backToKw pos (keywordEach [] X.env))) := by rfl) :
    PE X (.Call (.Attribute o m apos) (e :: es) [] pos) (rd g B (mMeth c m ff mo ms)) := (pe_methG ho c' hm Fo hr hb (passAt tk) ha hst hpl ht).imp fun σ H Q ⟨bs, ρ, F, N, env, S, s, e, p⟩ => by
  refine ⟨bs, ρ, F, N, env, S, s, e, (Post.bind (R1 := RW g) p).imp fun x H1 ⟨ρ1, F1, wx, S1, g1, s1, r1, p1⟩ => ?_⟩
  obtain ⟨a, dx, fs, ex, eH, hl, n, ew, p2⟩ := meth_post s1 (e.mono g1) r1 p1
  refine ⟨a, dx, fs, ex, eH, hl, bs, ρ1, F1, N, env, S1, s1, e.mono g1, (Post.bind (R1 := RWs g) p2).imp fun vs H2 ⟨ρ2, F2, ws, S2, g2, s2, r2, p3⟩ => ?_⟩
  refine ⟨bs, ρ2, F2, N, S2, .loc n :: ws, s2, .cons ?_ r2, ((e.mono g1).mono g2).more, post_at p3⟩
  rw [← ew]; exact r1.mono g2
theorem re_meth0 {pl : Sem Bool} (tk : Takes X B) (c' : Cls X.K (g.cls c)) (hm : Meth X.K (g.cls c) m fa) (Fo : FnG X.prog X.w X.K X.mg X.base k fa fd ps (spF g ff)) (hr : RoomG k X.A) (hb : Binds X.K fd ps []) (ho : PE X o (rd g B mo))
    (ht : eval (.Call (.Attribute o m apos) [] [] pos) X.env = (do
      let ov ← eval o X.env
      standAt apos.atName
      let (f, first) ← holding [ov] (getMethod ov m pl)
      callWith pos f first (backTo pos (starEach [] X.env)) (backToKw pos (keywordEach [] X.env))) := by rfl) :
    PE X (.Call (.Attribute o m apos) [] [] pos) (rd g B (mMeth c m ff mo mNil)) := (pe_methG0 ho c' hm Fo hr hb (passAt tk) ht).imp fun σ H Q ⟨bs, ρ, F, N, env, S, s, e, p⟩ => by
  refine ⟨bs, ρ, F, N, env, S, s, e, (Post.bind (R1 := RW g) p).imp fun x H1 ⟨ρ1, F1, wx, S1, g1, s1, r1, p1⟩ => ?_⟩
  obtain ⟨a, dx, fs, ex, eH, hl, n, ew, p2⟩ := meth_post (ms := mNil) s1 (e.mono g1) r1 p1
  refine ⟨a, dx, fs, ex, eH, hl, bs, ρ1, F1, N, S1, [.loc n], s1, .cons (ew ▸ r1) .nil, (e.mono g1).more, post_at p2⟩
/-- C(..) -/
def mMake (c : Nat) (f : FnT) (ms : M (List W)) : M W := fun bs env S => (ms bs env S).bind fun ws S1 => (f bs (.loc S1.length :: ws) (S1 ++ [.ins c []])).bind fun r S2 => match r with
  | .dat .none => .ok (.loc S1.length) S2
  | _ => .stuck
theorem make_post {ρ : List Addr} {F N H : Hp} {S : Store} {σ : L2.St} {Q : VK} {vs : List V} {ws : List W} {x dx : Addr} (s : Sim g bs ρ F N S H) (r : IsAll g.K ρ F vs ws) (mo : g.more ρ F) (hx : H x = none) (hd : H dx = none) (ne : dx ≠ x)
    (p : Post g B (RW g) bs ρ F N σ Q ((ff bs (.loc S.length :: ws) (S ++ [.ins c []])).bind fun r S2 => match r with
      | .dat .none => .ok (.loc S.length) S2
      | _ => .stuck)) : spF g ff (.ref x :: vs) (upd (upd H dx (.own x)) x (.ins (g.cls c) dx [])) (fun v H2 => v = .non ∧ Q (.ref x) H2) (WE B σ) := by
  have s1 : Sim g bs ρ F N S (upd H dx (.own x)) := s.heap (same_new hd)
  have hx1 : upd H dx (.own x) x = none := by rw [upd_ne (Ne.symm ne)]; exact hx
  obtain ⟨s2, gr⟩ := s1.newCell (c := .ins c []) (o := .ins (g.cls c) dx []) hx1 ⟨dx, [], upd_same, .nil⟩
  have hat : (ρ ++ [x])[S.length]? = some x := by rw [← s.len]; simp
  refine ⟨bs, ρ ++ [x], F, N, S ++ [.ins c []], .loc S.length :: ws, s2, .cons (.loc hat) (r.mono gr), g.stays _ _ _ _ gr mo, ?_⟩
  have p' := Post.grow gr p
  have key := (Post.bind (R1 := RW g) p').imp (Q' := fun v H2 => v = .non ∧ Q (.ref x) H2) fun v H2 ⟨ρ3, F3, w, S3, g3, s3, r3, p3⟩ => ?_
  · exact post_at key
  · cases w with
    | dat d =>
      cases d with
      | none => exact ⟨is_non r3, p3 ρ3 F3 H2 _ (Grow.refl _ _) s3 (.loc (g3.at hat))⟩
      | _ => exact p3.elim
    | loc _ => exact p3.elim
    | tw _ => exact p3.elim
    | lw _ => exact p3.elim
    | kt _ => exact p3.elim
theorem re_make (tk : Takes X B) (M' : Mk X.K (g.cls c) fa) (Fo : FnG X.prog X.w X.K X.mg X.base k fa fd ps (spF g ff)) (hr : RoomG (k + 1) X.A) (hg : Gl X x) (hm : X.mg x = some (.ref (g.cls c))) (hb : Binds X.K fd ps []) (ha : PA X (e :: es) (rdA g B ms))
    (hdb : (x == ("__debug__" : Str)) = false := by decide) (he : starEach (e :: es) X.env = (false, eval e X.env) :: starEach es X.env := by rfl) (hpl : (backTo pos (starEach es X.env)).any (·.1) = false := by rfl) :
    PE X (.Call (.Name x p) (e :: es) [] pos) (rd g B (mMake c ff ms)) := (pe_makeG M' Fo hr hg hm hb (passAt tk) ha hdb he hpl).imp fun σ H Q ⟨bs, ρ, F, N, env, S, s, e, p⟩ => by
  refine ⟨bs, ρ, F, N, env, S, s, e, (Post.bind (R1 := RWs g) p).imp fun vs H1 ⟨ρ1, F1, ws, S1, g1, s1, r1, p1⟩ => fun x dx hx hd ne => make_post s1 r1 (e.mono g1).more hx hd ne p1⟩
theorem re_make0 (tk : Takes X B) (M' : Mk X.K (g.cls c) fa) (Fo : FnG X.prog X.w X.K X.mg X.base k fa fd ps (spF g ff)) (hr : RoomG (k + 1) X.A) (hg : Gl X x) (hm : X.mg x = some (.ref (g.cls c))) (hb : Binds X.K fd ps [])
    (hdb : (x == ("__debug__" : Str)) = false := by decide) : PE X (.Call (.Name x p) [] [] pos) (rd g B (mMake c ff mNil)) := (pe_makeG0 M' Fo hr hg hm hb (passAt tk) hdb).imp fun σ H Q ⟨bs, ρ, F, N, env, S, s, e, p⟩ => by
  exact fun x dx hx hd ne => make_post s .nil e.more hx hd ne p
theorem re_call0 (tk : Takes X B) (Fo : FnG X.prog X.w X.K X.mg X.base k fa fd ps (spF g ff)) (hr : RoomG k X.A) (hg : Gl X x) (hm : X.mg x = some (.ref fa)) (hk : PySem.W.keepIn X.K (.ref fa) = true) (hb : Binds X.K fd ps [])
    (hdb : (x == ("__debug__" : Str)) = false := by decide) : PE X (.Call (.Name x p) [] [] pos) (rd g B (mCall ff mNil)) := (pe_callG0 Fo hr hg hm hk hb (passAt tk) hdb).imp fun σ H Q ⟨bs, ρ, F, N, env, S, s, e, p⟩ => ⟨bs, ρ, F, N, S, [], s, .nil, e.more, post_at p⟩
end
/-! ### defs whose cells stay: nothing is popped -/
def fnN (n p : Nat) (m : MS) : FnT := fun bs ws S => if ws.length = p then (m bs (startE n ws) S).out else .stuck
section
variable {g : Gx} {P : Program} {w : World} {K : PySem.W.Frag} {mg : Str → Option Value} {base : Heap}
theorem post_out {bs : List Nat} {ρ : List Addr} {F N : Hp} {Q : VK} {E : XK} {o : SO} (h : Post g (fun c d _ H => E c d H) (RW g) bs ρ F N [] Q o.out) :
    PostS g (fun c d _ H => E c d H) bs ρ F N { nx := fun _ H' => Q .non H', rt := Q } o := by
  cases o with
  | nx e S1 => exact fun ρ' F' H' σ' gr s _ => (show Post g (fun c d _ H => E c d H) (RW g) bs ρ F N [] Q (.ok .non S1) from h) ρ' F' H' .non gr s (.dat .non)
  | rt w S1 => exact fun ρ' F' H' v gr s r => h ρ' F' H' v gr s r
  | bk e S1 => exact h.elim
  | ct e S1 => exact h.elim
  | ex c ws e S1 => exact fun ρ' F' H' σ' d gr s _ r => h ρ' F' H' d gr s r
  | stuck => exact h.elim
theorem fn_okN {x qual : Str} {st : Stmt} {f : Addr} {fd : FuncData} {N ps : List Str} {k n p : Nat} {m : MS} (Fu : Fun K x qual st f fd) (S : FnScope N ps (defScope st))
    (hbody : ∀ (cdv : Value) (A : Around) (outer : List PySem.Env) (s : Shared) (H : Hp) (E : XK), RoomG k (A.deeper (envOfC qual (defScope st) s.heap.objs.size f cdv)) → fd.code = cdv →
      PSs (cxOf (L2.CX P w) P w K mg base N qual (defScope st) f cdv A outer s H E) (defBody st) (rdS g (fun c d _ H => E c d H) m)) (hn : N.length = n := by rfl) (hp : ps.length = p := by rfl) : FnG P w K mg base (k + 1) f fd ps (spF g (fnN n p m)) := by
  have cnt : ∀ vs H Q E, spF g (fnN n p m) vs H Q E → vs.length = ps.length := fun vs H Q E h => by
    obtain ⟨bs, ρ, F, N', S, ws, s, l, _, q⟩ := h
    unfold fnN at q
    split at q
    · rename_i hl; rw [l.len, hp]; exact hl
    · exact q.elim
  obtain ⟨oc, od, kV, doc, pm, an, cdv, ct, osl, rfl, lk, hcd⟩ := Fu.ex
  refine ⟨cnt, fun A st1 s H as us vs Q E room e0 bind vals h => ?_⟩
  have hin : K.In s.heap := e0.mod.kin.keeps fun b o z => (e0.bs b o z).1
  have lim : s.heap.NoLimit := e0.mod.nolimit.keeps fun b o z => (e0.bs b o z).1
  have kinds : ∀ y ∈ ps.zip us, (defScope st).names.lookup y.1 = some .local ∨ ((defScope st).names.lookup y.1 = some .cell ∧ ((cellsFrom (s.heap.objs.size + 1) (defScope st).names []).lookup y.1).isSome = true) := fun y hy => by
    obtain ⟨y1, y2⟩ := y
    rcases S.par y1 (List.of_mem_zip hy).1 with z | z
    · exact .inl z
    · exact .inr ⟨z, PySem.W.cellsFrom_some _ _ _ (.inl z)⟩
  refine codeAny_call_function room.rm.depth (hin _ _ lk) rfl S.co S.gen rfl (PySem.W.codeRec_of hin hcd) (bind _ _ _ _ ?_)
  refine wpAny_newFunctionEnv_cells S.kind kinds fun env1 henv s1 new => ?_
  subst henv
  refine ⟨lim.keeps new.toInCall.keep, codeAny_func ?_⟩
  have len := cnt _ _ _ _ h
  obtain ⟨bs, ρ, F, N', S', ws, sim, l, mo, q⟩ := h
  have run := hbody cdv A st1 s H E (room.deeper _) rfl
  have inv : Inv (cxOf (L2.CX P w) P w K mg base N qual (defScope st) f cdv A st1 s H E) [] (start N vs) H s1 := inv_start S room.rm.hd e0 len vals new
  unfold fnN at q
  split at q
  · have hq : rdS g (fun c d _ H => E c d H) m { nx := fun _ H' => Q .non H', rt := Q } (start N vs) H :=
      ⟨bs, ρ, F, N', startE n ws, S', sim, EnvR.start hn l mo, post_out q⟩
    refine wpAny_mono (run.run [] s1 (start N vs) H _ inv hq) (fun fl s' done => ?_) fun _ _ z => z
    cases fl with
    | ret u =>
      obtain ⟨v, σ', H', J, rel, z⟩ := done
      exact ⟨v, H', J.os, J.bare, J.base, J.hok, rel, z⟩
    | next =>
      obtain ⟨σ', H', J, z⟩ := done
      exact ⟨V.non, H', J.os, J.bare, J.base, J.hok, rfl, z⟩
    | brk => exact done.choose_spec.choose_spec.2.elim
    | cont => exact done.choose_spec.choose_spec.2.elim
  · exact q.elim
/-- a def that keeps a promise keeps every weaker one -/
theorem FnG.weaken {k : Nat} {f : Addr} {fd : FuncData} {ps : List Str} {sp sp' : Sp} (h : FnG P w K mg base k f fd ps sp) (i : ∀ vs H Q E, sp' vs H Q E → sp vs H Q E) : FnG P w K mg base k f fd ps sp' :=
  ⟨fun vs H Q E z => h.cnt vs H Q E (i _ _ _ _ z), fun A st s H as us vs Q E r e b v z => h.go A st s H as us vs Q E r e b v (i _ _ _ _ z)⟩
/-- a def of which nothing is known: none may call it -/
def fnStuck : FnT := fun _ _ _ => .stuck
theorem ok_stuck {k : Nat} {f : Addr} {fd : FuncData} {ps : List Str} : FnG P w K mg base k f fd ps (spF g fnStuck) :=
  ⟨fun vs H Q E h => by obtain ⟨bs, ρ, F, N', S, ws, s, l, _, q⟩ := h; exact q.elim, fun A st s H as us vs Q E r e b v h => by obtain ⟨bs, ρ, F, N', S, ws, s, l, _, q⟩ := h; exact q.elim⟩
theorem FnG.mono {j k : Nat} {f : Addr} {fd : FuncData} {ps : List Str} {sp : Sp} (h : FnG P w K mg base j f fd ps sp) (hjk : j ≤ k) : FnG P w K mg base k f fd ps sp :=
  ⟨h.cnt, fun A st s H as us vs Q E r => h.go A st s H as us vs Q E (r.mono hjk)⟩
end
end Rf

namespace Rf
open PySem PySem.Spec L2 PyProof.Rows

/-! ### texts sign by sign -/
def signsW (z : Str) : List W := z.cps.toList.map fun c => .str ⟨#[c]⟩
section
variable {X : Cx} {tg : Expr} {g : Gx} {B : WX} {bs : List Nat} {ρ : List Addr} {F N H : Hp} {S : Store} {a b e : Expr} {ma : M W} {ms : M (List W)} {p p' pos tpos apos cpos : Pos}
theorem it_str : ItR X tg (fun x H R => ∃ z, x = .str z ∧ R (Its z) H) := by
  intro pins s σ H x v R I rx q
  obtain ⟨z, rfl, q⟩ := q
  obtain ⟨t, rfl⟩ := rx
  cases ha : z.cps.all (· < 128)
  · exact wpAny_pyIter_wide ha (pi_one (tk := s.toks) I _ (turn_str _ z t "str_iterator" (.inr rfl)) ⟨_, Heap.get?_push_size _ rfl, rfl, rfl⟩ q)
  · exact wpAny_pyIter_ascii ha (pi_one (tk := s.toks) I _ (turn_str _ z t "str_ascii_iterator" (.inl rfl)) ⟨_, Heap.get?_push_size _ rfl, rfl, rfl⟩ q)
theorem walk_str {z : Str} : WalkOk g (Its z) ρ F (.items (signsW z)) := by
  intro bs ρ' F' N' S' H' i gr s
  show match (some (signsW z)[i]? : Option (Option W)) with
    | some (some w) => _
    | some none => _
    | none => True
  have e : (signsW z)[i]? = (z.cps[i]?).map fun c => W.str ⟨#[c]⟩ := by unfold signsW; rw [List.getElem?_map, Array.getElem?_toList]
  rw [e]
  cases hc : z.cps[i]? with
  | some c =>
    refine ⟨(Array.getElem?_eq_some_iff.mp hc).1, fun x H2 ⟨e1, c', h1, h2⟩ => ?_⟩
    subst e1 h2
    rw [hc] at h1; cases h1
    exact ⟨F', Grow.refl _ _, s, .dat (.str _)⟩
  | none => exact Array.getElem?_eq_none_iff.mp hc
def iterS (S : Store) (w : W) : Option Iter := match iterA S w with
  | some it => some it
  | none => match w with
    | .dat (.str z) => some (.items (signsW z))
    | _ => none
def mItS (m : M W) : M Iter := fun bs env S => (m bs env S).bind fun w S1 => match iterS S1 w with
  | some it => .ok it S1
  | none => .stuck
theorem iterA_ok {x : V} {w : W} {it : Iter} {R : It → Hp → Prop} (s1 : Sim g bs ρ F N S H) (r1 : Is g.K ρ F x w) (h : iterA S w = some it) (p : ∀ J, WalkOk g J ρ F it → R J H) :
    (∃ a, x = .ref a ∧ (∃ xs, SqT g.K H a xs) ∧ R (Itt g.K a) H) ∨ ∃ a, x = .ref a ∧ (∃ xs, SqL g.K H a xs) ∧ R (Itl g.K a) H := by
  unfold iterA at h
  cases hw : tupOf w with
  | some ws =>
    have e1 : iterT w = some (.items ws) := by unfold iterT; rw [hw]; rfl
    rw [e1] at h
    cases h
    obtain ⟨a, vs, rfl, q, l⟩ := tup_of r1 hw
    exact .inl ⟨a, rfl, ⟨vs, Same.sqT s1.ex q⟩, p _ (walk_tup q l)⟩
  | none =>
    have e1 : iterT w = none := by unfold iterT; rw [hw]; rfl
    rw [e1] at h
    right
    unfold iterL at h
    cases w with
    | dat d =>
      cases d <;> try cases h
      cases r1 with
      | dat r => cases r with
        | lst q r => exact ⟨_, rfl, ⟨_, SqL.of (s1.ex _ _ q)⟩, p _ (walk_lst (SqL.of q) r.isAll)⟩
    | lw ws => cases h; cases r1 with
      | lw q r => exact ⟨_, rfl, ⟨_, s1.ex.seq q⟩, p _ (walk_lst q r)⟩
    | tw ws => cases h
    | kt ws => cases h
    | loc n =>
      cases hc : S[n]? with
      | none => simp only [hc] at h; cases h
      | some c =>
        cases c with
        | lst ws =>
          simp only [hc] at h
          cases h
          cases r1 with
          | loc hn =>
            obtain ⟨vs, e, l⟩ := s1.cell n _ _ hc hn
            exact ⟨_, rfl, ⟨vs, SqL.of e⟩, p _ (walk_cell hn)⟩
        | dic _ => simp only [hc] at h; cases h
        | ins _ _ => simp only [hc] at h; cases h
        | fz _ => simp only [hc] at h; cases h
/-- a tuple, a list or a text -/
theorem ri_all (hK : g.K = X.K) (h : PE X a (rd g B ma)) : PI X tg a (rdI g B (mItS ma)) := (pi_it ((it_tup.or it_list).or it_str) h).imp fun σ H R ⟨bs, ρ, F, N, env, S, s, e, p⟩ => by
  refine ⟨bs, ρ, F, N, env, S, s, e, (Post.iter (R := RW g) p).imp fun x H1 ⟨ρ1, F1, wx, S1, g1, s1, r1, p1⟩ => ?_⟩
  rw [← hK]
  unfold iterS at p1
  cases hi : iterA S1 wx with
  | some it =>
    rw [hi] at p1
    exact .inl (iterA_ok s1 r1 hi fun J w => p1 ρ1 F1 H1 J (Grow.refl _ _) s1 w)
  | none =>
    rw [hi] at p1
    right
    cases wx with
    | dat d =>
      cases d with
      | str z =>
        obtain rfl := is_str r1
        exact ⟨z, rfl, p1 ρ1 F1 H1 _ (Grow.refl _ _) s1 walk_str⟩
      | _ => exact p1.elim
    | loc n => exact p1.elim
    | tw ws => exact p1.elim
    | lw ws => exact p1.elim
    | kt ws => exact p1.elim
/-! ### what the module's top holds -/
def mConW (w : W) : M W := fun _ _ S => .ok w S
/-- a module's name holds a value that is told -/
def GlobW (K : PySem.W.Frag) (mg : Str → Option Value) (x : Str) (w : W) : Prop := ∃ v u, mg x = some u ∧ RelV v u ∧ ∀ ρ F, Is K ρ F v w
theorem re_globW {x : Str} {w : W} (hg : Gl X x) (h : GlobW g.K X.mg x w) (hd : (x == ("__debug__" : Str)) = false := by decide) : PE X (.Name x pos) (rd g B (mConW w)) := by
  obtain ⟨v, u, h1, h2, h3⟩ := h
  exact (pe_glob hg h1 h2 hd).imp fun σ H Q ⟨bs, ρ, F, N, env, S, s, e, p⟩ => p ρ F H v (Grow.refl _ _) s (h3 ρ F)
/-- a tuple of the module's own -/
theorem tw_own {K : PySem.W.Frag} {a : Addr} {o : Obj} {its : Array Value} {n : Nat} {vs : List V} {ws : List W} {ρ : List Addr} {F : Hp} (l : K.lookup a = some o) (hc : o.cls = .type "tuple") (hd : o.data = .seq its n) (hz : its.size ≤ sizeLine) (hv : Vals vs its.toList)
    (h : IsAll K ρ F vs ws) : Is K ρ F (.ref a) (.tw ws) := .tw (.inr ⟨o, its, n, l, hc, hd, hz, hv⟩) h
/-- t.index(z), t a tuple of texts of the module's own -/
def mConIx (ys : List Str) (ms : M (List W)) : M W := fun bs env S => (ms bs env S).bind fun ws S1 => match ws with
  | [.dat (.str z)] => match ys.findIdx? (fun y => y == z) with
    | some j => .ok (.int (j : Nat)) S1
    | none => .stuck
  | _ => .stuck
def OwnT (K : PySem.W.Frag) (mg : Str → Option Value) (x : Str) (ys : List Str) : Prop := ∃ (a : Addr) (o : Obj) (its : Array Value) (n : Nat), mg x = some (.ref a) ∧ K.lookup a = some o ∧ o.cls = .type "tuple" ∧ o.dict = none ∧ o.data = .seq its n ∧ its.size ≤ sizeLine ∧ Vals (ys.map V.str) its.toList
theorem OwnT.glob {K : PySem.W.Frag} {mg : Str → Option Value} {x : Str} {ys : List Str} (h : OwnT K mg x ys) : GlobW K mg x (.tw (ys.map W.str)) := by
  obtain ⟨a, o, its, n, h1, h2, h3, h4, h5, h6, h7⟩ := h
  refine ⟨.ref a, .ref a, h1, rfl, fun ρ F => tw_own h2 h3 h5 h6 h7 ?_⟩
  clear h7
  induction ys with
  | nil => exact .nil
  | cons y ys ih => exact .cons (.dat (.str y)) ih
theorem re_conIx {x : Str} {ys : List Str} (hK : g.K = X.K) (hg : Gl X x) (h : OwnT X.K X.mg x ys) (ha : PA X [e] (rdA g B ms)) (hd : (x == ("__debug__" : Str)) = false := by decide)
    (hbase : attributeBase (.Name x p') "index" X.env (eval (.Name x p') X.env) = eval (.Name x p') X.env := by rfl)
    (hfew : ((backTo cpos (starEach [e] X.env)).all (fun x => !x.1) && (backToKw cpos (keywordEach [] X.env)).all (fun x => x.1.isSome)
      && decide (([e] : List Expr).length + ([] : List Keyword).length + (if ([] : List Keyword).isEmpty then 0 else 1) < 30)) = true := by rfl)
    (hline : (apos.endLine == cpos.line) = true := by rfl) (hs : starEach [e] X.env = (false, eval e X.env) :: starEach [] X.env := by rfl) (hplain : (backTo cpos (starEach [] X.env)).any (·.1) = false := by rfl) :
    PE X (.Call (.Attribute (.Name x p') "index" apos) [e] [] cpos) (rd g B (mConIx ys ms)) := by
  obtain ⟨a, o, its, n, h1, h2, h3, h4, h5, h6, h7⟩ := h
  refine (pe_bm PySem.F.plainAttrs_tuple PySem.F.slot_tuple_index PySem.F.type_tuple_index mt_tup_index (pe_glob (v := .ref a) hg h1 rfl hd) ha hbase hfew hline hs hplain).imp fun σ H Q ⟨bs, ρ, F, N, env, S, s, e, p⟩ => ?_
  refine ⟨.inr (.inl ⟨rfl, o, h2, h3, h4⟩), bs, ρ, F, N, env, S, s, e, (Post.bind (R1 := RWs g) p).imp fun xs H1 ⟨ρ1, F1, ws, S1, g1, s1, r1, p1⟩ => ?_⟩
  split at p1
  · rename_i z
    obtain ⟨v, rfl, rv⟩ := all_one r1
    obtain rfl := is_str rv
    cases hj : ys.findIdx? (fun y => y == z) with
    | none => rw [hj] at p1; exact p1.elim
    | some j =>
      rw [hj] at p1
      obtain ⟨hl, hz, hno⟩ := List.findIdx?_eq_some_iff_getElem.mp hj
      refine ⟨a, ys, z, j, rfl, rfl, .inr ⟨o, its, n, h2, h3, h5, h6, h7⟩, ?_, fun m hm hy => ?_, p1 ρ1 F1 H1 _ (Grow.refl _ _) s1 (.dat (.int _))⟩
      · rw [List.getElem?_eq_getElem hl]
        congr 1
        exact eq_of_beq hz
      · obtain ⟨hm', e⟩ := List.getElem?_eq_some_iff.mp hy
        have := hno m hm
        subst e
        simp at this
  · exact p1.elim
end
end Rf

namespace Rf
open PySem PySem.Spec L2 PyProof.Rows

/-! ### x op= e -/
section
variable {X : Cx} {g : Gx} {B : WX} {bs : List Nat} {a b c e o : Expr} {ma mb mo mv : M W} {pos pos' tpos : Pos} {f : Str} {cs : List Nat} {op2 : Op2}
theorem ro_iint {op : Operator} {f : Int → Int → Option Int} {C : Int → Int → Prop} {h : Int → Int → Int} (ho : OpR X (inplaceOp op) (rI C fun i j => .int (h i j))) (hf : ∀ i j z, f i j = some z → C i j ∧ z = h i j) : OpR X (inplaceOp op) (rd2 g (intF f)) := by
  intro pins s σ H x y v u Q I rx ry ⟨bs, ρ, F, N, S, wx, wy, s1, r1, r2, p⟩
  unfold intF at p
  split at p
  · rename_i i j
    rw [is_int r1] at rx; rw [is_int r2] at ry
    cases hz : f i j with
    | none => rw [hz] at p; exact p.elim
    | some z =>
      rw [hz] at p
      obtain ⟨c, e⟩ := hf i j z hz
      subst e
      exact ho pins s σ H _ _ v u Q I rx ry ⟨_, _, rfl, rfl, c, p ρ F H _ (Grow.refl _ _) s1 (.dat (.int _))⟩
  · exact p.elim
def addIF : Op2 := intF fun i j => some (i + j)
theorem ro_iadd : OpR X (inplaceOp .Add) (rd2 g addIF) := ro_iint (C := fun _ _ => True) (h := fun i j => i + j) (fun pins s σ H x y v u Q I rx ry ⟨i, j, e1, e2, _, q⟩ => iop_add pins s σ H x y v u Q I rx ry ⟨i, j, e1, e2, q⟩) fun i j z e => ⟨trivial, by cases e; rfl⟩
theorem ro_isub : OpR X (inplaceOp .Sub) (rd2 g subF) := ro_iint (C := fun _ _ => True) (h := fun i j => i - j) (fun pins s σ H x y v u Q I rx ry ⟨i, j, e1, e2, _, q⟩ => iop_sub pins s σ H x y v u Q I rx ry ⟨i, j, e1, e2, q⟩) fun i j z e => ⟨trivial, by cases e; rfl⟩
/-- o.f op= e -/
def fldOf (cs : List Nat) (f : Str) (S : Store) : W → Option W
  | .loc n => match S[n]? with
    | some (.ins c fs) => if c ∈ cs then fs.lookup f else none
    | _ => none
  | _ => none
def fldA (cs : List Nat) (f : Str) (op : Op2) (mv : M W) (bs : List Nat) (env : Env) (x : W) (S1 : Store) : SO := match fldOf cs f S1 x with
  | some u => (mv bs env S1).so env fun y S2 => match op bs u y S2 with
    | some (z, S3) => match setFld cs f bs x z S3 with
      | some S4 => .nx env S4
      | none => .stuck
    | none => .stuck
  | none => .stuck
def sFldA (cs : List Nat) (f : Str) (op : Op2) (mo mv : M W) : MS := fun bs env S => (mo bs env S).so env (fldA cs f op mv bs env)
theorem fld_of {ρ : List Addr} {F N H : Hp} {S : Store} {v : V} {w u : W} (hc : ∀ c ∈ cs, Cls X.K (g.cls c) ∧ NoAttr X.K (g.cls c) f) (s : Sim g bs ρ F N S H) (r : Is g.K ρ F v w) (h : fldOf cs f S w = some u) :
    ∃ a C dx fs y, v = .ref a ∧ H a = some (.ins C dx fs) ∧ Cls X.K C ∧ NoAttr X.K C f ∧ fs.lookup f = some y ∧ Is g.K ρ F y u := by
  unfold fldOf at h
  cases w with
  | loc n =>
    cases hn : S[n]? with
    | none => simp only [hn] at h; cases h
    | some cell =>
      cases cell with
      | ins c fs =>
        simp only [hn] at h
        split at h
        · rename_i hcs
          cases r with
          | loc hr =>
            obtain ⟨dx, gs, eH, rf⟩ := s.cell n _ _ hn hr
            obtain ⟨y, hy, ry⟩ := rf.look h
            exact ⟨_, _, dx, gs, y, rfl, eH, (hc c hcs).1, (hc c hcs).2, hy, ry⟩
        · cases h
      | lst _ => simp only [hn] at h; cases h
      | dic _ => simp only [hn] at h; cases h
      | fz _ => simp only [hn] at h; cases h
  | dat _ => cases h
  | tw _ => cases h
  | lw _ => cases h
  | kt _ => cases h
theorem rs_fldA {op : Operator} (hc : ∀ c ∈ cs, Cls X.K (g.cls c) ∧ NoAttr X.K (g.cls c) f) (ho : PE X o (rd g B mo)) (hv : PE X e (rd g B mv)) (hop : OpR X (inplaceOp op) (rd2 g op2)) :
    PS X (.AugAssign (.Attribute o f tpos) op e pos) (rdS g B (sFldA cs f op2 mo mv)) := by
  refine ⟨fun pins s σ H D I ⟨bs, ρ, F, N, env, S, s0, e0, p⟩ => ?_⟩
  refine wpAny_AugAssign_AttributeAny (thn (ho.run pins s σ H _ I ⟨bs, ρ, F, N, env, S, s0, e0, PostS.out (R := RW g) e0 p⟩) fun ov s1 ⟨x, H1, I1, rx, ρ1, F1, wx, S1, g1, sm1, r1, p1⟩ => ?_)
  unfold fldA at p1
  cases hu : fldOf cs f S1 wx with
  | none => rw [hu] at p1; exact p1.elim
  | some u =>
    rw [hu] at p1
    obtain ⟨a, C, dx, fs, y0, ex, ea, c, n, l, ry0⟩ := fld_of hc sm1 r1 hu
    subst ex
    obtain rfl : ov = Value.ref a := rx
    have e1 := e0.mono g1
    refine getattr_ok I1 ea c n l fun uv s2 I2 ru => thn (hv.run pins s2 σ H1 _ I2 ⟨bs, ρ1, F1, N, env, S1, sm1, e1, PostS.out (R := RW g) e1 p1⟩) fun w3 s3 ⟨y, H2, I3, ry, ρ2, F2, wy, S2, g2, sm2, r2, p2⟩ => ?_
    cases hz : op2 bs u wy S2 with
    | none => rw [hz] at p2; exact p2.elim
    | some q =>
      obtain ⟨z, S3⟩ := q
      rw [hz] at p2
      refine thn (hop pins s3 σ H2 y0 y uv w3 (fun v H3 => ∃ ρ3 F3, Grow ρ2 F2 ρ3 F3 ∧ Sim g bs ρ3 F3 N S3 H3 ∧ Is g.K ρ3 F3 v z) I3 ru ry ⟨bs, ρ2, F2, N, S2, u, wy, sm2, ry0.mono g2, r2, ?_⟩) fun w4 s4 ⟨zv, H3, I4, rz, ρ3, F3, g3, sm3, r3⟩ => ?_
      · rw [hz]
        exact fun ρ' F' H' v gr s' r' => ⟨ρ', F', gr, s', r'⟩
      · have r1' : Is g.K ρ3 F3 (.ref a) wx := (r1.mono g2).mono g3
        obtain ⟨a', C', dx', gs', ea', eH', c', n', l', q'⟩ := setFld_ok (P := fun H' => D.nx σ H') hc sm3 r1' r3 (by
          simp only at p2
          cases hs : setFld cs f bs wx z S3 with
          | none => simp only [hs] at p2; exact p2
          | some S4 => simp only [hs] at p2; exact fun H' s5 => p2 ρ3 F3 H' σ g3 s5 (((e1.mono g2).mono g3)))
        cases ea'
        exact setattr_ok I4 eH' c' n' l' rz fun s5 I5 => ⟨σ, _, I5, q'⟩
end
end Rf

namespace Rf
open PySem PySem.Spec L2 PyProof.Rows

/-! ### max(..) of a list or a tuple of whole numbers -/
def maxTF : Store → W → Option W := fun S w => match (seqOf S w).bind intsW with
  | some ns => (ns.max?).map .int
  | none => none
theorem ints_reads {h : Heap} : ∀ {us : List Value} {ns : List Int}, IntsAre us ns → ReadsAll h us (ns.map PyData.int) []
  | _, _, .nil => .nil
  | _, _, .cons n tk t => .cons (as := []) (.int _ _) (ints_reads t)
theorem ints_depth : ∀ ns : List Int, PyData.depthAll (ns.map PyData.int) = 0
  | [] => rfl
  | n :: ns => by
    show max (PyData.depth (.int n)) (PyData.depthAll (ns.map PyData.int)) = 0
    rw [ints_depth ns]; rfl
theorem rc_maxT {X : Cx} {g : Gx} (hK : g.K = X.K) (hc : X.calm = true) (hu : X.A.units + 100 < cLine) : CallR X (.builtin "max") (rdN g (un maxTF)) := by
  intro pins s σ H xs us Q I r ⟨bs, ρ, F, N, S, ws, s1, r1, p⟩
  unfold un at p
  split at p
  · obtain ⟨v, rfl, r2⟩ := all_one r1
    unfold maxTF at p
    split at p
    · rename_i ns h1
      obtain ⟨zs, h2, h3⟩ := Option.bind_eq_some_iff.mp h1
      obtain ⟨a, vs, rfl, q1, l1⟩ := seq_of s1 r2 h2
      rw [hK, ints_is l1 h3] at q1
      cases h4 : ns.max? with
      | none => rw [h4] at p; exact p.elim
      | some m =>
        rw [h4] at p
        rcases q1 with q1 | q1
        · refine cr_max hc pins s σ H _ us Q I r ⟨a, ns, rfl, q1, ?_, fun m' hm' hy => ?_⟩
          · cases ns with
            | nil => cases h4
            | cons => simp
          · have : ns.max? = some m' := List.max?_eq_some_iff.mpr ⟨hm', hy⟩
            rw [this] at h4; cases h4
            exact p ρ F H _ (Grow.refl _ _) s1 (.dat (.int _))
        · obtain ⟨its, rv, hl, _⟩ := I.tuple q1
          rw [Vals.ref1 r]
          cases ns with
          | nil => cases h4
          | cons n ns =>
            have rd := ints_reads (h := s.heap) rv.ints
            have dp := ints_depth (n :: ns)
            refine PySem.W.max_tuple_data (x := .int n) (xs := ns.map .int) (as := []) (I.ok.hd hc) hl rd ⟨fun x hx y hy => ?_, fun x hx => ?_⟩ (by rw [← List.map_cons (f := PyData.int), dp]; omega) fun i v h' tk bs' hv rd' hk => ?_
            · obtain ⟨i, _, rfl⟩ := List.mem_map.mp (show x ∈ (n :: ns).map PyData.int from hx)
              obtain ⟨j, _, rfl⟩ := List.mem_map.mp (show y ∈ (n :: ns).map PyData.int from hy)
              rfl
            · obtain ⟨i, _, rfl⟩ := List.mem_map.mp (show x ∈ (n :: ns).map PyData.int from hx)
              exact fun z => (nomatch z)
            · rw [PySem.W.maxD_ints] at rd'
              have e : m = ns.foldl max n := by simpa [List.max?] using h4.symm
              rw [← e] at rd'
              cases rd' with
              | int _ t => exact ⟨.int m, H, I.kept hk, ⟨_, rfl⟩, p ρ F H _ (Grow.refl _ _) s1 (.dat (.int _))⟩
    · exact p.elim
  · exact p.elim
end Rf

namespace Rf
open PySem PySem.Spec L2 PyProof.Rows

/-! ### list(range(..)), tuple(range(..)) -/
def rgOk (i j : Int) : Bool := decide (-1000000 ≤ i) && decide (i ≤ 1000000) && decide (-1000000 ≤ j) && decide (j ≤ 1000000)
def rgLF (k : Bool) : Op2 := fun _ x y S => match x, y with
  | .dat (.int i), .dat (.int j) => if rgOk i j = true then some (newL k (rangeW i j) S) else none
  | _, _ => none
def rgTF : Op2 := fun _ x y S => match x, y with
  | .dat (.int i), .dat (.int j) => if rgOk i j = true then some (mkTup (rangeW i j), S) else none
  | _, _ => none
theorem rgOk_ok {i j : Int} (h : rgOk i j = true) : RgOk i j := by
  simp only [rgOk, Bool.and_eq_true, decide_eq_true_eq] at h
  refine ⟨by omega, by omega, by omega, by omega, ?_⟩
  have : (2 : Nat) ^ 24 = 16777216 := by decide
  omega
theorem rg_all {K : PySem.W.Frag} {ρ : List Addr} {F : Hp} (i j : Int) : IsAll K ρ F (rgV i j) (rangeW i j) := by
  unfold rgV rangeW
  generalize List.range (j - i).toNat = l
  induction l with
  | nil => exact .nil
  | cons a l ih => exact .cons (.dat (.int _)) ih
section
variable {X : Cx} {g : Gx} {B : WX} {a b : Expr} {ma mb : M W} {pos p q pos' : Pos}
theorem rl_core {k : Bool} (σ : L2.St) (H : Hp) (Q : VK) (h : rd g B (mBin (rgLF k) ma mb) σ H Q) : tLstRg (tRg2 (rd g B ma) (rd g B mb)) σ H Q := by
  obtain ⟨bs, ρ, F, N, env, S, s, e, p⟩ := h
  refine ⟨bs, ρ, F, N, env, S, s, e, (Post.bind p).imp fun x H1 ⟨ρ1, F1, wx, S1, g1, s1, r1, p1⟩ => ?_⟩
  refine ⟨bs, ρ1, F1, N, env, S1, s1, e.mono g1, (Post.bind p1).imp fun y H2 ⟨ρ2, F2, wy, S2, g2, s2, r2, p2⟩ => ?_⟩
  have p3 := post_op p2
  unfold rgLF at p3
  split at p3
  · rename_i i j _
    split at p3
    · rename_i hr
      refine ⟨i, j, is_int (r1.mono g2), is_int r2, rgOk_ok hr, fun q hq => new_ok s2 hq (rg_all i j) p3⟩
    · exact p3.elim
  · exact p3.elim
theorem rt_core (σ : L2.St) (H : Hp) (Q : VK) (h : rd g B (mBin rgTF ma mb) σ H Q) : tTupRg (tRg2 (rd g B ma) (rd g B mb)) σ H Q := by
  obtain ⟨bs, ρ, F, N, env, S, s, e, p⟩ := h
  refine ⟨bs, ρ, F, N, env, S, s, e, (Post.bind p).imp fun x H1 ⟨ρ1, F1, wx, S1, g1, s1, r1, p1⟩ => ?_⟩
  refine ⟨bs, ρ1, F1, N, env, S1, s1, e.mono g1, (Post.bind p1).imp fun y H2 ⟨ρ2, F2, wy, S2, g2, s2, r2, p2⟩ => ?_⟩
  have p3 := post_op p2
  unfold rgTF at p3
  split at p3
  · rename_i i j _
    split at p3
    · rename_i hr
      refine ⟨i, j, is_int (r1.mono g2), is_int r2, rgOk_ok hr, fun q hq => newT_ok s2 hq (rg_all i j) p3⟩
    · exact p3.elim
  · exact p3.elim
theorem re_listRg {k : Bool} (hc : X.calm = true) (hg : Gl X "list") (hm : X.mg "list" = none) (hg' : Gl X "range") (hm' : X.mg "range" = none) (ha : PE X a (rd g B ma)) (hb : PE X b (rd g B mb)) (na : starEach [a, b] X.env = (false, eval a X.env) :: starEach [b] X.env := by rfl)
    (nb : starEach [b] X.env = (false, eval b X.env) :: starEach [] X.env := by rfl) (hp : (backTo q (starEach [b] X.env)).any (·.1) = false := by rfl) : PE X (.Call (.Name "list" p) [.Call (.Name "range" pos') [a, b] [] q] [] pos) (rd g B (mBin (rgLF k) ma mb)) :=
  (pe_listRg hc hg hm (prg_2 hg' hm' ha hb na nb hp)).imp rl_core
theorem re_tupRg (hc : X.calm = true) (hg : Gl X "tuple") (hm : X.mg "tuple" = none) (hg' : Gl X "range") (hm' : X.mg "range" = none) (ha : PE X a (rd g B ma)) (hb : PE X b (rd g B mb)) (na : starEach [a, b] X.env = (false, eval a X.env) :: starEach [b] X.env := by rfl)
    (nb : starEach [b] X.env = (false, eval b X.env) :: starEach [] X.env := by rfl) (hp : (backTo q (starEach [b] X.env)).any (·.1) = false := by rfl) : PE X (.Call (.Name "tuple" p) [.Call (.Name "range" pos') [a, b] [] q] [] pos) (rd g B (mBin rgTF ma mb)) :=
  (pe_tupRg hc hg hm (prg_2 hg' hm' ha hb na nb hp)).imp rt_core
theorem rl_core1 {k : Bool} (σ : L2.St) (H : Hp) (Q : VK) (h : rd g B (mBin (rgLF k) (mCon (.int 0)) mb) σ H Q) : tLstRg (tRg1 (rd g B mb)) σ H Q := by
  obtain ⟨bs, ρ, F, N, env, S, s, e, p⟩ := h
  have p0 : Post g B (RW g) bs ρ F N σ Q ((mb bs env S).bind fun y S2 => match rgLF k bs (.dat (.int 0)) y S2 with
    | some (w, S3) => .ok w S3
    | none => .stuck) := p
  refine ⟨bs, ρ, F, N, env, S, s, e, (Post.bind p0).imp fun y H2 ⟨ρ2, F2, wy, S2, g2, s2, r2, p2⟩ => ?_⟩
  have p3 := post_op p2
  have no : PostV g bs ρ2 F2 N Q none → False := fun h => h
  cases wy with
  | dat d =>
    cases d with
    | int j =>
      have p4 : PostV g bs ρ2 F2 N Q (if rgOk 0 j = true then some (newL k (rangeW 0 j) S2) else none) := p3
      split at p4
      · rename_i hr
        exact ⟨j, is_int r2, rgOk_ok hr, fun q hq => new_ok s2 hq (rg_all _ j) p4⟩
      · exact p4.elim
    | _ => exact (no p3).elim
  | _ => exact (no p3).elim
theorem re_listRg1 {k : Bool} (hc : X.calm = true) (hg : Gl X "list") (hm : X.mg "list" = none) (hg' : Gl X "range") (hm' : X.mg "range" = none) (hb : PE X b (rd g B mb))
    (nb : starEach [b] X.env = (false, eval b X.env) :: starEach [] X.env := by rfl) : PE X (.Call (.Name "list" p) [.Call (.Name "range" pos') [b] [] q] [] pos) (rd g B (mBin (rgLF k) (mCon (.int 0)) mb)) :=
  (pe_listRg hc hg hm (prg_1 hg' hm' hb nb)).imp rl_core1
theorem rt_core1 (σ : L2.St) (H : Hp) (Q : VK) (h : rd g B (mBin rgTF (mCon (.int 0)) mb) σ H Q) : tTupRg (tRg1 (rd g B mb)) σ H Q := by
  obtain ⟨bs, ρ, F, N, env, S, s, e, p⟩ := h
  have p0 : Post g B (RW g) bs ρ F N σ Q ((mb bs env S).bind fun y S2 => match rgTF bs (.dat (.int 0)) y S2 with
    | some (w, S3) => .ok w S3
    | none => .stuck) := p
  refine ⟨bs, ρ, F, N, env, S, s, e, (Post.bind p0).imp fun y H2 ⟨ρ2, F2, wy, S2, g2, s2, r2, p2⟩ => ?_⟩
  have p3 := post_op p2
  have no : PostV g bs ρ2 F2 N Q none → False := fun h => h
  cases wy with
  | dat d =>
    cases d with
    | int j =>
      have p4 : PostV g bs ρ2 F2 N Q (if rgOk 0 j = true then some (mkTup (rangeW 0 j), S2) else none) := p3
      split at p4
      · rename_i hr
        exact ⟨j, is_int r2, rgOk_ok hr, fun q hq => newT_ok s2 hq (rg_all _ j) p4⟩
      · exact p4.elim
    | _ => exact (no p3).elim
  | _ => exact (no p3).elim
theorem re_tupRg1 (hc : X.calm = true) (hg : Gl X "tuple") (hm : X.mg "tuple" = none) (hg' : Gl X "range") (hm' : X.mg "range" = none) (hb : PE X b (rd g B mb))
    (nb : starEach [b] X.env = (false, eval b X.env) :: starEach [] X.env := by rfl) : PE X (.Call (.Name "tuple" p) [.Call (.Name "range" pos') [b] [] q] [] pos) (rd g B (mBin rgTF (mCon (.int 0)) mb)) :=
  (pe_tupRg hc hg hm (prg_1 hg' hm' hb nb)).imp rt_core1
theorem rs_par3 {i j l : Nat} {x y z : Str} {px py pz pt : Pos} {kt k2 pt2} {a b c : Expr} {ms : M (List W)} (hc : X.calm = true) (hN : X.N.Nodup) (hi : X.N[i]? = some x) (hj : X.N[j]? = some y) (hl : X.N[l]? = some z) (hij : i ≠ j) (hil : i ≠ l) (hjl : j ≠ l)
    (hx : X.env.scope.names.lookup x = some .local) (hy : X.env.scope.names.lookup y = some .local) (hz : X.env.scope.names.lookup z = some .local) (ha : PA X [a, b, c] (rdA g B ms))
    (hw : swappedStores [.Tuple [.Name x px, .Name y py, .Name z pz] kt pt] (.Tuple [a, b, c] k2 pt2) X.env = pure (some [x, y, z]))
    (hs : swapsWithSole [.Tuple [.Name x px, .Name y py, .Name z pz] kt pt] (.Tuple [a, b, c] k2 pt2) pos.line X.env = pure false := by rfl) :
    PS X (.Assign [.Tuple [.Name x px, .Name y py, .Name z pz] kt pt] (.Tuple [a, b, c] k2 pt2) pos) (rdS g B (sPar3 i j l ms)) := (ps_par3 hc hN hi hj hl hij hil hjl hx hy hz ha hw hs).imp fun D σ H ⟨bs, ρ, F, N, env, S, s, e, p⟩ => by
  refine ⟨bs, ρ, F, N, env, S, s, e, (PostS.out (R := RWs g) e p).imp fun x H1 ⟨ρ1, F1, wx, S1, g1, s1, r1, p1⟩ => ?_⟩
  split at p1
  · obtain ⟨u, v, w, rfl, r2, r3, r4⟩ := all_three r1
    exact ⟨u, v, w, rfl, p1 ρ1 F1 H1 _ (Grow.refl _ _) s1 ((((e.mono g1).set i r2).set j r3).set l r4)⟩
  · exact p1.elim
end
end Rf

namespace Rf
open PySem PySem.Spec L2 PyProof.Rows

/-! ### raise X("..") of an own error that keeps nothing -/
def sRaise (c : Nat) : MS := fun _ env S => .ex c [] env S
section
variable {X : Cx} {g : Gx} {B : WX}
theorem rs_raiseT {c : Nat} {x m : Str} {j : Nat} {p p2 pos pos' : Pos} {bmB : List Value} {Bn newId initId : String} (hc : X.calm = true) (tk : Takes X B) (F : ExcBaseFacts Bn newId initId bmB) (q : PySem.W.excIn X.K (g.cls c) bmB newId = true) (gC : X.mg x = some (.ref (g.cls c)))
    (kC : PySem.W.keepIn X.K (.ref (g.cls c)) = true) (r : Raises X (.ref (g.cls c))) (hg : Gl X x) (hdb : (x == ("__debug__" : Str)) = false := by decide) : PS X (.Raise (some (.Call (.Name x p) [.Constant (.str m) j p2] [] pos)) none pos') (rdS g B (sRaise c)) :=
  (ps_raise hc tk (pmk_own F q gC kC r hg hdb)).imp fun D σ H ⟨bs, ρ, Fr, N, env, S, s, e, pp⟩ => pp ρ Fr H σ none (Grow.refl _ _) s e rfl
end
end Rf

namespace PySem
namespace RfX
open PySem.W PyProof.Rows PySem.HandSPX Builtin Builtin.ObjectAttr

/-! ### self.f = v on a fresh exception of any base: the three things that are asked of the class's line of classes -/
structure MroOk (l : List Value) : Prop where
  ne : l.isEmpty = false
  obj : l.contains (.type "object") = true
  pass : ∀ self : Value, refuseLoop self "__setattr__" l = pure ()
theorem MroOk.ref {l : List Value} (c : Addr) (h : MroOk l) : MroOk (.ref c :: l) :=
  ⟨rfl, (by rw [List.contains_cons, h.obj]; simp), fun self => by rw [refuseLoop_ref]; exact h.pass self⟩
section
variable {p : Program} {wd : World} {Ar : Around} {Rs : Result → Shared → Prop} {hp : Heap} {ge : Array GenState} {dr : Drawn} {tt : Nat} {o2 : OsState} {K : W.Frag} {f : Str} {tok : Tok} {val : Value} {at_ C : Addr} {fs : Array Value} {cl : ClassData}
theorem fresh_store (In : K.In hp) (own : hp.get? at_ = some { cls := .ref C, data := .fields fs }) (hcl : W.clsIn K C = some cl) (ok : MroOk cl.mro) (dict : cl.hasDict = true) (free : W.findIn K (.ref C) f = some none)
    (next : ∀ h2 t2 dx, (∀ b o, b ≠ at_ → hp.get? b = some o → h2.get? b = some o) → hp.objs.size ≤ dx → dx ≠ at_ → h2.get? at_ = some { cls := .ref C, dict := some dx, data := .fields fs } → h2.Ns1 dx (fun y => if y = f then some val else none) → Rs (.ok (.ret .none)) ⟨h2, ge, dr, t2, o2⟩) :
    codeAny (model p wd) Ar (.call (.builtin "object.__setattr__") ⟨[.ref at_, .str f tok, val], []⟩) Rs ⟨hp, ge, dr, tt, o2⟩ := by
  have inst : W.InstAt hp at_ { cls := .ref C, data := .fields fs } C none := ⟨own, rfl, rfl, trivial⟩
  have so := F.store_object
  have apart : at_ ≠ hp.objs.size := Nat.ne_of_lt (Heap.lt_size own)
  have isObj : W.Looks (model p wd) hp (isInstance (.ref at_) (.type "object")) true := inst.type.andThen (W.looks_mroIn In (by unfold W.mroIn; rw [hcl, Option.bind_some, if_neg (by rw [ok.ne]; decide), ok.obj]))
  refine codeAny_call_builtin so.slot.plain so.entry (@W.check_slot (model p wd) _ _ ⟨hp, ge, dr, tt, o2⟩ "object.__setattr__" "object" "__setattr__" (.ref at_) [.str f tok, val] [] _ so.kind so.split isObj (so.args (.ref at_) (.str f tok) val) ?_)
  have line : W.Looks (model p wd) hp (mroOf (.ref C)) cl.mro := (W.looks_clsIn In hcl).andThen .now
  have taker : W.Looks (model p wd) hp (storeTaker? none) none := .now
  have cdat : W.Looks (model p wd) hp (classData C) cl := W.looks_clsIn In hcl
  rw [W.osa_eq, refuse_eq]
  refine wpAny_bind (wpAny_bind (inst.type.at (wpAny_bind (line.at ?_))))
  rw [ok.pass]
  refine wpAny_pure (wpAny_bind (inst.type.at (wpAny_bind ((W.looks_findIn In free).at (wpAny_bind (taker.at ?_))))))
  show wpAny _ _ (storeInOwnDict (.ref at_) (.ref C) (.str f tok) f val false) _ _ _
  obtain ⟨c1, c2, c3, c4, c5, c6, c7, c8, c9, c10, c11⟩ := cl
  dsimp only at dict
  subst dict
  unfold storeInOwnDict ownDictForStores
  repeat (first | with_reducible refine store_in_new ?_ ?_ | with_reducible refine wpAny_loadPart_at own ?_ | with_reducible refine cdat.at ?_ | wp_step)
  · exact ⟨_, #[], _, (Heap.get?_update_ne _ _ _ _ apart.symm).trans (Heap.get?_push_at rfl rfl), rfl, fun e he => absurd he (by simp), fun _ => rfl⟩
  · intro h2 t2 n2 same
    have own2 : (hp.push { cls := .type "dict", data := .dict #[] }).get? at_ = some { cls := .ref C, data := .fields fs } := Heap.get?_push_of_some _ own
    exact next h2 t2 hp.objs.size (fun b o hb ho => (same.2 b (Nat.ne_of_lt (Heap.lt_size ho))).trans ((Heap.get?_update_ne _ _ _ _ hb).trans (Heap.get?_push_of_some _ ho))) (Nat.le_refl _) apart.symm ((same.2 at_ apart).trans (Heap.get?_update_self _ own2 rfl)) n2
end
end RfX
end PySem
namespace Rf
open PySem PySem.Spec L2 PyProof.Rows
/-! ### raise X(e), X an own error that keeps one value -/
def sRaise1 (c : Nat) (ms : M (List W)) : MS := fun bs env S => (ms bs env S).so env fun ws S1 => match ws with
  | [w] => .ex c [w] env S1
  | _ => .stuck
theorem rs_raise1 {X : Cx} {g : Gx} {B : WX} {c : Nat} {ms : M (List W)} {st : Stmt} (h : PS X st fun _ σ H => rdA g B ms σ H fun vs H1 => ∃ v, vs = [v] ∧ ∀ d, H1 d = none → B (.ref (g.cls c)) (some d) σ (upd H1 d (.xd [(g.fld c, v)]))) : PS X st (rdS g B (sRaise1 c ms)) := h.imp fun D σ H ⟨bs, ρ, F, N, env, S, s, e, p⟩ => by
  refine ⟨bs, ρ, F, N, env, S, s, e, (PostS.out (R := RWs g) e p).imp fun x H1 ⟨ρ1, F1, wx, S1, g1, s1, r1, p1⟩ => ?_⟩
  split at p1
  · rename_i w
    obtain ⟨v, rfl, r2⟩ := all_one r1
    refine ⟨v, rfl, fun d hd => ?_⟩
    obtain ⟨s2, g2⟩ := s1.frozen (o := .xd [(g.fld c, v)]) hd
    exact p1 _ _ _ σ (some d) g2 s2 (e.mono (g1.trans g2)) ⟨d, v, rfl, upd_same, r2.mono g2⟩
  · exact p1.elim
end Rf

namespace PySem
namespace RfX
open PySem.F Builtin.ObjectAttr Builtin
/-! ### the built-in lines of classes that own errors stand on -/
abbrev valueLine : List Value := [.type "ValueError", .type "Exception", .type "BaseException", .type "object"]
abbrev indexLine : List Value := [.type "IndexError", .type "LookupError", .type "Exception", .type "BaseException", .type "object"]
abbrev overLine : List Value := [.type "OverflowError", .type "ArithmeticError", .type "Exception", .type "BaseException", .type "object"]
abbrev arithLine : List Value := [.type "ArithmeticError", .type "Exception", .type "BaseException", .type "object"]
theorem mro_value : MroOk valueLine := ⟨rfl, by decide +kernel, fun self => by kernel_rfl⟩
theorem mro_index : MroOk indexLine := ⟨rfl, by decide +kernel, fun self => by kernel_rfl⟩
theorem mro_over : MroOk overLine := ⟨rfl, by decide +kernel, fun self => by kernel_rfl⟩
theorem mro_arith : MroOk arithLine := ⟨rfl, by decide +kernel, fun self => by kernel_rfl⟩
end RfX
end PySem

namespace Rf
open PySem PySem.Spec L2 PyProof.Rows

/-! ### list(..) of a list, a tuple, a dict (its keys: numbers and texts) -/
def listDF (k : Bool) : OpN := fun bs ws S => match listF k bs ws S with
  | some r => some r
  | none => match ws with
    | [w] => match dicOf S w with
      | some us => if dicRdy S w us (.one (.inl 0)) = true then some (newL k (us.map fun p => .dat p.1) S) else none
      | none => none
    | _ => none
theorem keys_all {K : PySem.W.Frag} {ρ : List Addr} {F : Hp} : ∀ {kvs : List (Key × V)} {us : List (PyData × W)}, IsKV K ρ F (kvs.map fun p => (kD p.1, p.2)) us → IsAll K ρ F (kvs.map fun kv => kV kv.1) (us.map fun p => W.dat p.1)
  | [], us, h => by cases h; exact .nil
  | (k, v) :: kvs, us, h => by
    cases h with
    | cons a b =>
      refine .cons ?_ (keys_all b)
      cases k with
      | inl i => exact .dat (.int i)
      | inr z => exact .dat (.str z)
theorem rc_listD {X : Cx} {g : Gx} (hK : g.K = X.K) (hc : X.calm = true) {k : Bool} : CallR X (.type "list") (rdN g (listDF k)) := by
  intro pins sh σ H xs us Q inv rel ⟨bs, ρ, F, N, S, ws, s, l, p⟩
  unfold listDF at p
  cases h1 : listF k bs ws S with
  | some r =>
    rw [h1] at p
    exact rc_list hK (k := k) pins sh σ H xs us Q inv rel ⟨bs, ρ, F, N, S, ws, s, l, by rw [h1]; exact p⟩
  | none =>
    rw [h1] at p
    dsimp only at p
    split at p
    · rename_i w
      split at p
      · rename_i kvw hd
        split at p
        · rename_i ok
          obtain ⟨v, rfl, r⟩ := all_one l
          obtain ⟨H', inv', s', a, vs, rfl, dh, q⟩ := dic_ready inv s r hd ok
          cases dh with
          | @k kvs look => exact call_listD hc pins sh σ H' _ us Q inv' rel ⟨a, kvs, rfl, look, fun p0 free => new_ok s' free (keys_all q) p⟩
        · exact p.elim
      · exact p.elim
    · exact p.elim
end Rf

namespace Rf
open PySem PySem.Spec L2 PyProof.Rows

/-! ### try with clauses, some of which name the exception -/
abbrev Clause := Value × Option Nat × (Addr → Value → Option Addr → TS)
/-- the name of a clause goes behind its suite -/
def backOf (i : Option Nat) (D : Ends) : Ends := match i with
  | none => D
  | some i => { nx := fun τ J => D.nx (τ.set i none) J, rt := D.rt, bk := fun τ J => D.bk (τ.set i none) J, ct := fun τ J => D.ct (τ.set i none) J }
def putOf (i : Option Nat) (ea : Addr) (τ : L2.St) : L2.St := match i with
  | none => τ
  | some i => τ.set i (some (.ref ea))
def wMix (K : PySem.W.Frag) (out : WX) (D : Ends) : List Clause → WX
  | [] => out
  | (c, i, ts) :: r => fun cls d τ J => ∃ b, PySem.W.exmOne K cls c = some b ∧ (b = true → ∀ ea, J ea = none → ts ea cls d (backOf i D) (putOf i ea τ) J) ∧ (b = false → wMix K out D r cls d τ J)
abbrev SuiteOk (X : Cx) (suite : List Stmt) (ts : Addr → Value → Option Addr → TS) : Prop :=
  ∀ (ea : Addr) (eo : Obj) (cls : Value) (d : Option Addr) (pq : List (Addr × Obj)), Zc cls d eo → (∃ us, eo.data = .fields us) → PSs (X.suite ea ((ea, eo) :: pq)) suite (ts ea cls d)
inductive Clauses (X : Cx) : List ExceptHandler → List Clause → Prop
  | nil : Clauses X [] []
  | bare {x : Str} {c : Value} {ts : Addr → Value → Option Addr → TS} {st : Stmt} {more : List Stmt} {np hp : Pos} {hds : List ExceptHandler} {l : List Clause} (hc : Names X x c) (ok : SuiteOk X (st :: more) ts) (r : Clauses X hds l) :
      Clauses X (.ExceptHandler (some (.Name x np)) none (st :: more) hp :: hds) ((c, none, ts) :: l)
  | named {x n : Str} {i : Nat} {c : Value} {ts : Addr → Value → Option Addr → TS} {st : Stmt} {more : List Stmt} {np hp : Pos} {hds : List ExceptHandler} {l : List Clause} (hc : Names X x c) (hi : X.N[i]? = some n) (hl : X.env.kindOf n = some .local)
      (ok : SuiteOk X (st :: more) ts) (r : Clauses X hds l) : Clauses X (.ExceptHandler (some (.Name x np)) (some n) (st :: more) hp :: hds) ((c, some i, ts) :: l)
section
variable {X : Cx} {body : List Stmt} {hd : ExceptHandler} {hds : List ExceptHandler} {l : List Clause} {pos : Pos} {tb : WX → TS} {out : WX}
theorem ps_try_mix (hst : X.stack = X.env :: X.outer) (hfm : X.env.frame = some X.env.locals) (nd : X.N.Nodup) (tk : Takes X out)
    (hb : ∀ (W : WX) (pq : List (Addr × Obj)) (xe : Value → Shared → Prop), Takes (X.tr pq xe) W → PassesOwn (model X.prog X.w) X.A X.env xe → PSs (X.tr pq xe) body (tb W))
    (hh : Clauses X (hd :: hds) l) : PS X (.Try body (hd :: hds) [] [] pos) (fun D τ J => tb (wMix X.K out D l) D τ J) := by
  refine ⟨fun pins s τ J D inv h => ?_⟩
  have fine := inv.ok
  have frames : X.A.frames = some (X.env :: X.outer) := by rw [fine.frames, hst]
  refine wpAny_Try_except ?_
  refine wpAny_mono ((hb (wMix X.K out D l) (X.pn ++ pins) (fun e t1 => wpAny (model X.prog X.w) X.A (noteFrame e X.env) (fun _ t2 => wpAny (model X.prog X.w) X.A (setFlight e none)
    (fun _ t3 => wpAny (model X.prog X.w) X.A (handleBy e X.env (hd :: hds)) (SP X pins D) X.xe t3) X.xe t2) X.xe t1) (fun u t4 air => ?_) PassesOwn.looking).run [] s τ J D (inv.toTry _) h) (fun fl t5 ran => ?_) (fun e t6 z => z)
  · -- an exception of the body
    obtain ⟨ea, G, sI, pins2, τ1, J1, cls, d, rfl, inv2, nb, up, sky, na, os, ag, w⟩ := air
    have invI : Inv X pins τ1 J1 sI := inv2.ofTry fine
    have sky2 : Sky G (X.env :: X.outer) ea (Zc cls d) X.env.locals t4.heap := by rw [← hst]; exact sky
    show wpAny (model X.prog X.w) X.A (noteFrame (.ref ea) X.env) _ _ _
    refine Sky.land Zc.steady frames hfm sky2 fun k3 fly up3 => ?_
    have inv3 : Inv X pins τ1 J1 { t4 with heap := k3 } := invI.landed nb fly.1 (up.trans up3) os ag
    obtain ⟨eo, us3, at3, z3, da3⟩ := fly.there
    have apart : ∀ {k : Heap} {o : Obj} {us : Array Value}, k.FunFrames G (X.env :: X.outer) → k.get? ea = some o → o.data = .fields us → ea ∉ frs (X.env :: X.outer) := by
      intro k o us ff e dd hm
      obtain ⟨_, o', e', no⟩ := ff.mem hm
      rw [e] at e'; cases e'
      exact no _ dd
    have offF := apart fly.2.2.1 at3 da3
    have offL : ea ≠ X.env.locals := by
      intro z
      exact offF (List.mem_filterMap.mpr ⟨X.env, List.mem_cons_self, by rw [hfm, z]⟩)
    have offO : ea ∉ X.fs := by
      intro hm
      obtain ⟨e, he, q⟩ := List.mem_filterMap.mp hm
      exact offF (List.mem_filterMap.mpr ⟨e, List.mem_cons_of_mem _ he, q⟩)
    have invS := inv3.suite at3 da3 na offL offO
    have LT : PySem.W.Looks (model X.prog X.w) k3 (typeOf (.ref ea)) cls := by
      intro A Q E t k q
      exact wpAny_typeOf_ref (k _ _ at3) (by rw [z3.1]; exact q)
    have test : ∀ {x : Str} {c : Value} {np : Pos} {Q E : Value → Shared → Prop}, Names X x c → Q c { t4 with heap := k3 } → wpAny (model X.prog X.w) (X.A.mark (some (.ref ea))) (eval (.Name x np) X.env) Q E { t4 with heap := k3 } := by
      intro x c np Q E nm q
      obtain ⟨hg, hdb, hm | ⟨hm, hv, hn⟩⟩ := nm
      · exact ld_glob (X := X.suite ea ((ea, eo) :: (X.pn ++ pins))) invS hg hm q hdb
      · exact ld_blt (X := X.suite ea ((ea, eo) :: (X.pn ++ pins))) invS hg hm hv q hn hdb
    have go : ∀ {hds' : List ExceptHandler} {l' : List Clause}, Clauses X hds' l' → wMix X.K out D l' cls d τ1 J1 → wpAny (model X.prog X.w) X.A (handleBy (.ref ea) X.env hds') (SP X pins D) X.xe { t4 with heap := k3 } := by
      intro hds' l' cl
      induction cl with
      | nil =>
        intro w
        refine wpAny_handleBy_nil ?_
        obtain ⟨_, _, _, o9, us9, T9, oT9, ts9, e9, _, d9, f9, _⟩ := id fly
        unfold PySem.passOn
        refine wpAny_bind (wpAny_field e9 d9 f9 ?_)
        rw [if_neg (show ¬ ((Value.ref T9 == Value.none) = true) from by simp)]
        have onward : wpAny (model X.prog X.w) X.A (setFlight (.ref ea) X.env.frame) (fun _ t7 => wpAny (model X.prog X.w) X.A (throw (.ref ea) : Sem Flow) (SP X pins D) X.xe t7) X.xe { t4 with heap := k3 } := by
          rw [hfm]
          exact HandSPX.setFlight_upZ fly fun k4 held up4 => wpAny_throw (tk _ _ ⟨ea, G, sI, pins, τ1, J1, cls, d, rfl, invI, nb, (up.trans up3).trans up4, .inr (.inr (by rw [hst]; exact held)), na, os, ag, w⟩)
        first | exact wpAny_bind (wpAny_pure (wpAny_bind onward)) | exact wpAny_bind onward
      | @bare x c ts st more np hp hds2 l2 hc ok r ih =>
        intro ⟨b, b1, yes, no⟩
        refine wpAny_handleBy_cons (codeAny_handlers_test ?_) (by intro q; cases q)
        refine test hc ((PySem.W.exm_one (M := model X.prog X.w) inv3.kIn LT b1).here ?_)
        cases b with
        | false => exact ih (no rfl)
        | true =>
          refine codeAny_handlers_suite (HandSPX.lands_againZ fly fun k4 fly4 up4 => ?_)
          have inv4 : Inv X pins τ1 J1 { t4 with heap := k4 } := invI.landed nb fly4.1 ((up.trans up3).trans up4) os ag
          obtain ⟨eo4, us4, at4, z4, da4⟩ := fly4.there
          refine wpAny_mono ((ok ea eo4 cls d (X.pn ++ pins) z4 ⟨_, da4⟩).run [] _ _ J1 _ (inv4.suite at4 da4 na offL offO) (yes rfl ea na)) (fun fl t8 ran => ?_) (fun _ _ z => z.elim)
          cases fl with
          | ret u => obtain ⟨v, τ6, J6, i6, r6, q⟩ := ran; exact ⟨v, τ6, J6, i6.unsuite fine, r6, q⟩
          | next => obtain ⟨τ6, J6, i6, q⟩ := ran; exact ⟨τ6, J6, i6.unsuite fine, q⟩
          | brk => obtain ⟨τ6, J6, i6, q⟩ := ran; exact ⟨τ6, J6, i6.unsuite fine, q⟩
          | cont => obtain ⟨τ6, J6, i6, q⟩ := ran; exact ⟨τ6, J6, i6.unsuite fine, q⟩
      | @named x n i c ts st more np hp hds2 l2 hc hi hl ok r ih =>
        intro ⟨b, b1, yes, no⟩
        refine wpAny_handleBy_cons (codeAny_handlers_test ?_) (by intro q; cases q)
        refine test hc ((PySem.W.exm_one (M := model X.prog X.w) inv3.kIn LT b1).here ?_)
        cases b with
        | false => exact ih (no rfl)
        | true =>
          refine codeAny_handlers_suite_as (HandSPX.lands_againZ fly fun k4 fly4 up4 => ?_)
          have inv4 : Inv X pins τ1 J1 { t4 with heap := k4 } := invI.landed nb fly4.1 ((up.trans up3).trans up4) os ag
          obtain ⟨eo4, us4, at4, z4, da4⟩ := fly4.there
          refine store_ok (X := X.suite ea ((ea, eo4) :: (X.pn ++ pins))) (v := .ref ea) (inv4.suite at4 da4 na offL offO) nd hi (.inl hl) rfl (fun t9 inv9 => ?_) (.inr hl)
          refine wpAny_mono ((ok ea eo4 cls d (X.pn ++ pins) z4 ⟨_, da4⟩).run [] t9 _ J1 _ inv9 (yes rfl ea na)) (fun fl t8 ran => ?_) (fun _ _ z => z.elim)
          have gone : ∀ {τ6 : L2.St} {J6 : Hp} {Q : Shared → Prop}, Inv (X.suite ea ((ea, eo4) :: (X.pn ++ pins))) [] τ6 J6 t8 → (∀ t, Inv X pins (τ6.set i none) J6 t → Q t) →
              wpAny (model X.prog X.w) X.A (do bindName X.env n .none; unbindBehindTheSuite X.env n hp) (fun _ t => Q t) X.xe t8 := by
            intro τ6 J6 Q i6 q
            exact gone_ok (i6.unsuite fine) nd hi hl q
          cases fl with
          | ret u => obtain ⟨v, τ6, J6, i6, r6, q⟩ := ran; exact gone i6 fun t i7 => ⟨v, _, J6, i7, r6, q⟩
          | next => obtain ⟨τ6, J6, i6, q⟩ := ran; exact gone i6 fun t i7 => ⟨_, J6, i7, q⟩
          | brk => obtain ⟨τ6, J6, i6, q⟩ := ran; exact gone i6 fun t i7 => ⟨_, J6, i7, q⟩
          | cont => obtain ⟨τ6, J6, i6, q⟩ := ran; exact gone i6 fun t i7 => ⟨_, J6, i7, q⟩
    exact go hh w
  · cases fl with
    | ret u => obtain ⟨v, τ6, J6, i6, r6, q⟩ := ran; exact ⟨v, τ6, J6, i6.ofTry fine, r6, q⟩
    | next => obtain ⟨τ6, J6, i6, q⟩ := ran; exact wpAny_execs_nil ⟨τ6, J6, i6.ofTry fine, q⟩
    | brk => obtain ⟨τ6, J6, i6, q⟩ := ran; exact ⟨τ6, J6, i6.ofTry fine, q⟩
    | cont => obtain ⟨τ6, J6, i6, q⟩ := ran; exact ⟨τ6, J6, i6.ofTry fine, q⟩
end
end Rf

namespace Rf
open PySem PySem.Spec L2 PyProof.Rows

/-! ### try: its reading -/
structure Hd where
  c : Nat
  i : Option Nat
  m : List W → MS
def clrO (i : Option Nat) (env : Env) : Env := match i with
  | none => env
  | some i => env.set i none
def SO.unAs (i : Option Nat) : SO → SO
  | .nx e S => .nx (clrO i e) S
  | .rt w S => .rt w S
  | .bk e S => .bk (clrO i e) S
  | .ct e S => .ct (clrO i e) S
  | _ => .stuck
def sSuite (h : Hd) (ws : List W) : MS := fun bs env S => (h.m ws bs (clrO h.i env) S).unAs h.i
def sTry (b : MS) (errs : List Nat) (cat : Nat → Nat → Bool) (hs : List Hd) : MS := fun bs env S => match b bs env S with
  | .ex c ws e S1 => if c ∈ errs then (match hs.find? fun h => cat c h.c with
      | some h => sSuite h ws bs e S1
      | none => .ex c ws e S1) else .stuck
  | o => o
/-- what the exception keeps -/
def Kept (g : Gx) (k : Nat) (ws : List W) (d : Option Addr) : List Addr → Hp → Prop := fun ρ F => match ws with
  | [] => True
  | w :: _ => ∃ a x, d = some a ∧ F a = some (.xd [(g.fld k, x)]) ∧ Is g.K ρ F x w
theorem kept_stays (g : Gx) (k : Nat) (ws : List W) (d : Option Addr) : Stays (Kept g k ws d) := fun ρ F ρ' F' gr h => by
  cases ws with
  | nil => trivial
  | cons w ws => obtain ⟨a, x, h1, h2, h3⟩ := h; exact ⟨a, x, h1, gr.ex _ _ h2, h3.mono gr⟩
abbrev gK (g : Gx) (k : Nat) (ws : List W) (d : Option Addr) : Gx := g.pin (Kept g k ws d) (kept_stays g k ws d)
/-- where a clause has named the exception -/
def slotOf (i : Option Nat) (ea : Addr) : L2.St → Prop := fun τ => match i with
  | none => True
  | some i => i < τ.length → τ[i]? = some (some (.ref ea))
theorem slot_put (i : Option Nat) (ea : Addr) (τ : L2.St) : slotOf i ea (putOf i ea τ) := by
  cases i with
  | none => trivial
  | some i => intro h; exact List.getElem?_set_self (by simpa [putOf] using h)
/-- readings under a condition of the slots -/
abbrev rdGC {α β : Type} (C : L2.St → Prop) (g : Gx) (B : WX) (R : List Addr → Hp → β → α → Prop) (m : M α) : L2.St → Hp → (β → Hp → Prop) → Prop := fun τ J Q => C τ ∧ rdG g B R m τ J Q
abbrev rdC (C : L2.St → Prop) (g : Gx) (B : WX) (m : M W) : TE := rdGC C g B (RW g) m
abbrev rdAC (C : L2.St → Prop) (g : Gx) (B : WX) (m : M (List W)) : TA := rdGC C g B (RWs g) m
abbrev rdSC (C : L2.St → Prop) (g : Gx) (B : WX) (m : MS) : TS := fun D τ J => C τ ∧ rdS g B m D τ J
section
variable {g : Gx} {bs : List Nat} {ρ ρ1 : List Addr} {F F1 N H : Hp} {S : Store} {σ : L2.St} {env : Env} {P : List Addr → Hp → Prop} {hP : Stays P}
theorem Sim.pin (s : Sim g bs ρ F N S H) : Sim (g.pin P hP) bs ρ F N S H := ⟨s.len, s.nd, s.ex, s.fr, s.cell, s.hid, s.nf, s.nl, s.bot, s.tab, s.nt⟩
theorem Sim.unpin (s : Sim (g.pin P hP) bs ρ F N S H) : Sim g bs ρ F N S H := ⟨s.len, s.nd, s.ex, s.fr, s.cell, s.hid, s.nf, s.nl, s.bot, s.tab, s.nt⟩
theorem EnvR.pin (e : EnvR g ρ F σ env) (h : P ρ F) : EnvR (g.pin P hP) ρ F σ env := ⟨e.len, e.at_, e.more, h⟩
theorem EnvR.unpin (e : EnvR (g.pin P hP) ρ F σ env) : EnvR g ρ F σ env := ⟨e.len, e.at_, e.more.1⟩
/-- a thing of the heap that is no cell comes to be known -/
theorem Sim.know {a : Addr} {u : HO} (s : Sim g bs ρ F N S H) (h : H a = some u) (no : ¬ Mu (some u)) (n1 : ∀ c d l, u ≠ .ins c d l) (n2 : ∀ o v, u ≠ .frz o v) (n0 : ∀ ps, u ≠ .tbl ps) : ∃ F', Grow ρ F ρ F' ∧ Sim g bs ρ F' N S H ∧ F' a = some u := by
  cases hF : F a with
  | some o =>
    have e := s.ex a o hF
    rw [h] at e; cases e
    exact ⟨F, Grow.refl _ _, s, hF⟩
  | none =>
    have gr : Grow ρ F ρ (upd F a u) := ⟨⟨[], by simp⟩, same_new hF⟩
    have nr : a ∉ ρ := fun ha => by
      obtain ⟨n, hn, e⟩ := List.mem_iff_getElem.mp ha
      have hl : n < S.length := by rw [← s.len]; exact hn
      have c := s.cell n S[n] a (by simp [hl]) (by rw [List.getElem?_eq_getElem hn, e])
      cases hc : S[n] with
      | lst ws => rw [hc] at c; obtain ⟨_, q, _⟩ := c; rw [h] at q; cases q; exact no trivial
      | dic ws => rw [hc] at c; rcases c with ⟨_, q, _⟩ | ⟨_, q, _⟩ <;> (rw [h] at q; cases q; exact no trivial)
      | ins k fs => rw [hc] at c; obtain ⟨_, _, q, _⟩ := c; rw [h] at q; cases q; exact n1 _ _ _ rfl
      | fz ws => rw [hc] at c; rcases c with ⟨_, _, q, _⟩ | ⟨_, _, q, _⟩ <;> (rw [h] at q; cases q; exact n2 _ _ rfl)
    refine ⟨_, gr, ⟨s.len, s.nd, fun b v e => ?_, fun n c b e1 e2 e3 => ?_, fun n c b e1 e2 => (s.cell n c b e1 e2).mono gr rfl, s.hid, fun b v e => ⟨?_, (s.nf b v e).2⟩, s.nl, s.bot, s.tab, nt_upd s.nt n0⟩, upd_same⟩
    · by_cases z : b = a
      · subst z; rw [upd_same] at e; cases e; exact h
      · rw [upd_ne z] at e; exact s.ex b v e
    · rw [upd_ne (ne_mem (List.mem_of_getElem? e2) nr)]; exact s.fr n c b e1 e2 e3
    · have z : b ≠ a := fun z => by
        subst z
        have e' := s.hid b _ e
        rw [h] at e'; cases e'
        exact no (s.nl b _ e)
      rw [upd_ne z]; exact (s.nf b v e).1
theorem EnvR.clrO (e : EnvR g ρ F σ env) (i : Option Nat) (ea : Addr) : EnvR g ρ F (putOf i ea σ) (Rf.clrO i env) := by
  cases i with
  | none => exact e
  | some i =>
    refine ⟨by simp [putOf, Rf.clrO, e.len], fun j x hj => ?_, e.more⟩
    by_cases z : i = j
    · subst z
      have hj' : (env.set i none)[i]? = some (some x) := hj
      have hl := (List.getElem?_eq_some_iff.mp hj').1
      simp only [List.length_set] at hl
      rw [List.getElem?_set_self hl] at hj'
      cases hj'
    · have hj' : (env.set i none)[j]? = some (some x) := hj
      rw [List.getElem?_set_ne z] at hj'
      show ∃ v, (σ.set i (some (.ref ea)))[j]? = some (some v) ∧ _
      rw [List.getElem?_set_ne z]
      exact e.at_ j x hj'
/-- the suite's outcome, its name gone -/
theorem post_unAs {B : WX} {D : Ends} {i : Option Nat} {o : SO} (h : PostS g B bs ρ F N D (o.unAs i)) : PostS (g.pin P hP) (fun _ _ _ _ => False) bs ρ F N (backOf i D) o := by
  cases o with
  | nx e S1 =>
    intro ρ' F' H' σ' gr s e'
    cases i with
    | none => exact h ρ' F' H' σ' gr s.unpin e'.unpin
    | some i => exact h ρ' F' H' (σ'.set i none) gr s.unpin (e'.unpin.clr i)
  | bk e S1 =>
    intro ρ' F' H' σ' gr s e'
    cases i with
    | none => exact h ρ' F' H' σ' gr s.unpin e'.unpin
    | some i => exact h ρ' F' H' (σ'.set i none) gr s.unpin (e'.unpin.clr i)
  | ct e S1 =>
    intro ρ' F' H' σ' gr s e'
    cases i with
    | none => exact h ρ' F' H' σ' gr s.unpin e'.unpin
    | some i => exact h ρ' F' H' (σ'.set i none) gr s.unpin (e'.unpin.clr i)
  | rt w S1 =>
    intro ρ' F' H' v gr s r
    cases i with
    | none => exact h ρ' F' H' v gr s.unpin r
    | some i => exact h ρ' F' H' v gr s.unpin r
  | ex c ws e S1 => exact h.elim
  | stuck => exact h.elim
end
section
variable {X : Cx} {g : Gx} {B : WX} {body : List Stmt} {hd : ExceptHandler} {hds : List ExceptHandler} {pos : Pos} {errs : List Nat} {cat : Nat → Nat → Bool}
theorem pss_ex {ι : Type} {st : List Stmt} {t : ι → TS} (h : ∀ i, PSs X st (t i)) : PSs X st (fun D σ H => ∃ i, t i D σ H) := ⟨fun pins s σ H D I ⟨i, q⟩ => (h i).run pins s σ H D I q⟩
theorem pss_and {st : List Stmt} {p : Prop} {t : TS} (h : p → PSs X st t) : PSs X st (fun D σ H => p ∧ t D σ H) := ⟨fun pins s σ H D I q => (h q.1).run pins s σ H D I q.2⟩
def tsOf (g : Gx) (errs : List Nat) (cat : Nat → Nat → Bool) (h : Hd) : Addr → Value → Option Addr → TS := fun ea cls d D τ J => ∃ k : Nat, ∃ ws : List W, (cat k h.c = true ∧ k ∈ errs ∧ cls = .ref (g.cls k)) ∧ rdSC (slotOf h.i ea) (gK g k ws d) (fun _ _ _ _ => False) (h.m ws) D τ J
def clOf (g : Gx) (errs : List Nat) (cat : Nat → Nat → Bool) (h : Hd) : Clause := (.ref (g.cls h.c), h.i, tsOf g errs cat h)
abbrev SuiteR (X : Cx) (g : Gx) (errs : List Nat) (cat : Nat → Nat → Bool) (c : Nat) (i : Option Nat) (m : List W → MS) (suite : List Stmt) : Prop :=
  ∀ (k : Nat) (ws : List W) (d : Option Addr) (ea : Addr) (eo : Obj) (pq : List (Addr × Obj)), cat k c = true → k ∈ errs → Zc (.ref (g.cls k)) d eo → (∃ us, eo.data = .fields us) → PSs (X.suite ea ((ea, eo) :: pq)) suite (rdSC (slotOf i ea) (gK g k ws d) (fun _ _ _ _ => False) (m ws))
theorem suite_ok {h : Hd} {suite : List Stmt} (ok : SuiteR X g errs cat h.c h.i h.m suite) : SuiteOk X suite (tsOf g errs cat h) := fun ea eo cls d pq hz hd =>
  pss_ex fun k => pss_ex fun ws => pss_and fun ⟨h1, h2, h3⟩ => by subst h3; exact ok k ws d ea eo pq h1 h2 hz hd
inductive HdsR (X : Cx) (g : Gx) (errs : List Nat) (cat : Nat → Nat → Bool) : List ExceptHandler → List Hd → Prop
  | nil : HdsR X g errs cat [] []
  | bare {x : Str} {c : Nat} {m : List W → MS} {st : Stmt} {more : List Stmt} {np hp : Pos} {hds : List ExceptHandler} {l : List Hd} (hc : Names X x (.ref (g.cls c))) (hx : ∀ k ∈ errs, PySem.W.exmOne X.K (.ref (g.cls k)) (.ref (g.cls c)) = some (cat k c))
      (ok : SuiteR X g errs cat c none m (st :: more)) (r : HdsR X g errs cat hds l) : HdsR X g errs cat (.ExceptHandler (some (.Name x np)) none (st :: more) hp :: hds) (⟨c, none, m⟩ :: l)
  | named {x n : Str} {i : Nat} {c : Nat} {m : List W → MS} {st : Stmt} {more : List Stmt} {np hp : Pos} {hds : List ExceptHandler} {l : List Hd} (hi : X.N[i]? = some n) (hl : X.env.kindOf n = some .local) (hc : Names X x (.ref (g.cls c)))
      (hx : ∀ k ∈ errs, PySem.W.exmOne X.K (.ref (g.cls k)) (.ref (g.cls c)) = some (cat k c)) (ok : SuiteR X g errs cat c (some i) m (st :: more)) (r : HdsR X g errs cat hds l) : HdsR X g errs cat (.ExceptHandler (some (.Name x np)) (some n) (st :: more) hp :: hds) (⟨c, some i, m⟩ :: l)
theorem hds_cl {l : List Hd} (h : HdsR X g errs cat hds l) : Clauses X hds (l.map (clOf g errs cat)) := by
  induction h with
  | nil => exact .nil
  | bare hc hx ok r ih => exact .bare hc (suite_ok (h := ⟨_, none, _⟩) ok) ih
  | named hi hl hc hx ok r ih => exact .named hc hi hl (suite_ok (h := ⟨_, some _, _⟩) ok) ih
theorem hds_x {l : List Hd} (h : HdsR X g errs cat hds l) : ∀ x ∈ l, ∀ k ∈ errs, PySem.W.exmOne X.K (.ref (g.cls k)) (.ref (g.cls x.c)) = some (cat k x.c) := by
  induction h with
  | nil => intro x hx; cases hx
  | bare hc hx ok r ih =>
    intro x hm
    rcases List.mem_cons.mp hm with z | z
    · subst z; exact hx
    · exact ih x z
  | named hi hl hc hx ok r ih =>
    intro x hm
    rcases List.mem_cons.mp hm with z | z
    · subst z; exact hx
    · exact ih x z
theorem mix_of {bs : List Nat} {ρ ρ' : List Addr} {F F' N H' : Hp} {D : Ends} {σ' : L2.St} {c : Nat} {ws : List W} {e1 : Env} {S1 : Store} {d : Option Addr} (hK : g.K = X.K) (hc : c ∈ errs) (gr : Grow ρ F ρ' F') (s : Sim g bs ρ' F' N S1 H') (e : EnvR g ρ' F' σ' e1) (r : ExR g c ρ' F' H' d ws) :
    ∀ (l : List Hd), (∀ x ∈ l, ∀ k ∈ errs, PySem.W.exmOne X.K (.ref (g.cls k)) (.ref (g.cls x.c)) = some (cat k x.c)) → PostS g B bs ρ F N D (match l.find? fun h => cat c h.c with
      | some h => sSuite h ws bs e1 S1
      | none => .ex c ws e1 S1) → wMix X.K B D (l.map (clOf g errs cat)) (.ref (g.cls c)) d σ' H'
  | [], _, p => p ρ' F' H' σ' d gr s e r
  | h :: l, hx, p => by
    refine ⟨cat c h.c, hx h (List.mem_cons_self ..) c hc, fun hb ea na => ?_, fun hb => ?_⟩
    · rw [List.find?_cons, hb] at p
      have p' : PostS g B bs ρ F N D (sSuite h ws bs e1 S1) := p
      obtain ⟨F2, g2, s2, k2⟩ : ∃ F2, Grow ρ' F' ρ' F2 ∧ Sim g bs ρ' F2 N S1 H' ∧ Kept g c ws d ρ' F2 := by
        cases ws with
        | nil => exact ⟨F', Grow.refl _ _, s, trivial⟩
        | cons w ws =>
          obtain ⟨a, v, h1, h2, h3⟩ := r
          obtain ⟨F2, g2, s2, e2⟩ := s.know h2 (fun z => z) (fun _ _ _ z => nomatch z) (fun _ _ z => nomatch z) (fun _ z => nomatch z)
          exact ⟨F2, g2, s2, a, v, h1, e2, h3.mono g2⟩
      refine ⟨c, ws, ⟨hb, hc, rfl⟩, slot_put _ _ _, bs, ρ', F2, N, clrO h.i e1, S1, s2.pin, EnvR.pin ((e.mono g2).clrO h.i ea) k2, ?_⟩
      exact post_unAs (PostS.grow (gr.trans g2) p')
    · rw [List.find?_cons, hb] at p
      exact mix_of hK hc gr s e r l (fun x hm => hx x (List.mem_cons_of_mem _ hm)) p
theorem rs_tryC {C : L2.St → Prop} {b : MS} {l : List Hd} (hst : X.stack = X.env :: X.outer) (hfm : X.env.frame = some X.env.locals) (nd : X.N.Nodup) (hK : g.K = X.K) (tk : Takes X B)
    (hb : ∀ (W : WX) (pq : List (Addr × Obj)) (xe : Value → Shared → Prop), Takes (X.tr pq xe) W → PassesOwn (model X.prog X.w) X.A X.env xe → PSs (X.tr pq xe) body (rdSC C g W b))
    (hh : HdsR X g errs cat (hd :: hds) l) : PS X (.Try body (hd :: hds) [] [] pos) (rdSC C g B (sTry b errs cat l)) :=
  (ps_try_mix hst hfm nd tk hb (hds_cl hh)).imp fun D σ H ⟨cσ, bs, ρ, F, N, env, S, s, e, p⟩ => by
  refine ⟨cσ, bs, ρ, F, N, env, S, s, e, ?_⟩
  unfold sTry at p
  cases ho : b bs env S with
  | nx e1 S1 => rw [ho] at p; exact p
  | rt w S1 => rw [ho] at p; exact p
  | bk e1 S1 => rw [ho] at p; exact p
  | ct e1 S1 => rw [ho] at p; exact p
  | stuck => rw [ho] at p; exact p
  | ex c ws e1 S1 =>
    rw [ho] at p
    by_cases hc : c ∈ errs
    · have p' : PostS g B bs ρ F N D (if c ∈ errs then (match l.find? fun h => cat c h.c with
        | some h => sSuite h ws bs e1 S1
        | none => .ex c ws e1 S1) else .stuck) := p
      rw [if_pos hc] at p'
      exact fun ρ' F' H' σ' d gr s' e' r => mix_of hK hc gr s' e' r l (hds_x hh) p'
    · have p' : PostS g B bs ρ F N D (if c ∈ errs then (match l.find? fun h => cat c h.c with
        | some h => sSuite h ws bs e1 S1
        | none => .ex c ws e1 S1) else .stuck) := p
      rw [if_neg hc] at p'
      exact p'.elim
theorem rs_try {b : MS} {l : List Hd} (hst : X.stack = X.env :: X.outer) (hfm : X.env.frame = some X.env.locals) (nd : X.N.Nodup) (hK : g.K = X.K) (tk : Takes X B)
    (hb : ∀ (W : WX) (pq : List (Addr × Obj)) (xe : Value → Shared → Prop), Takes (X.tr pq xe) W → PassesOwn (model X.prog X.w) X.A X.env xe → PSs (X.tr pq xe) body (rdS g W b))
    (hh : HdsR X g errs cat (hd :: hds) l) : PS X (.Try body (hd :: hds) [] [] pos) (rdS g B (sTry b errs cat l)) :=
  (rs_tryC (C := fun _ => True) hst hfm nd hK tk (fun W pq xe t o => (hb W pq xe t o).imp fun D σ H q => q.2) hh).imp fun D σ H q => ⟨trivial, q⟩
end
/-! ### in a suite: the exception's field -/
section
variable {X : Cx} {g : Gx} {B : WX} {C : L2.St → Prop} {a b e : Expr} {es : List Expr} {ma mb : M W} {ms : M (List W)} {pos : Pos} {f : Op2} {st : List Stmt} {m : MS}
def mKept (ws : List W) : M W := fun _ _ S => match ws with
  | w :: _ => .ok w S
  | [] => .stuck
theorem re_kept {k i : Nat} {ws : List W} {d : Option Addr} {ea : Addr} {eo : Obj} {pq : List (Addr × Obj)} {n fx : Str} {np : Pos} (hz : Zc (.ref (g.cls k)) d eo) (hd : ∃ us, eo.data = .fields us) (hN : X.N[i]? = some n) (hK : g.K = X.K)
    (T : XfC X.K (g.cls k)) (hno : PySem.W.findIn X.K (.ref (g.cls k)) fx = some none) (hf : g.fld k = fx) (hv : Vis X.env.scope n := by first | exact Or.inl rfl | exact Or.inr (Or.inl rfl) | exact Or.inr (Or.inr rfl)) (hdb : (n == ("__debug__" : Str)) = false := by decide)
    (hcd : (n == ("__classdict__" : Str)) = false := by decide) (hb : attributeBase (.Name n np) fx X.env (eval (.Name n np) X.env) = eval (.Name n np) X.env := by rfl) :
    PE (X.suite ea ((ea, eo) :: pq)) (.Attribute (.Name n np) fx pos) (rdC (slotOf (some i) ea) (gK g k ws d) B (mKept ws)) := by
  refine ⟨fun pins s σ H Q inv ⟨cσ, bs, ρ, F, N, env, S, sim, er, p⟩ => ?_⟩
  have hi : i < σ.length := by
    rw [inv.len]
    exact (List.getElem?_eq_some_iff.mp hN).1
  refine (pe_xf (X := X) (a := ea) (oe := eo) (d := d) (pn := pq) T hno hz hd (pe_var (X := X.suite ea ((ea, eo) :: pq)) (pos := np) (i := i) hN hv hdb hcd) hb).run pins s σ H Q inv ⟨.ref ea, cσ hi, rfl, rfl, ?_⟩
  cases ws with
  | nil => exact p.elim
  | cons w ws =>
    obtain ⟨dd, x, h1, h2, h3⟩ := er.more.2
    refine ⟨dd, [(g.fld k, x)], x, h1, sim.ex _ _ h2, ?_, p ρ F H x (Grow.refl _ _) sim h3⟩
    rw [hf]; simp [List.lookup]
theorem rk_of (h : PE X e (rd g B ma)) : PE X e (rdC C g B ma) := h.imp fun σ H Q q => q.2
theorem rka_of (h : PA X es (rdA g B ms)) : PA X es (rdAC C g B ms) := h.imp fun σ H Q q => q.2
theorem rks_of (h : PSs X st (rdS g B m)) : PSs X st (rdSC C g B m) := h.imp fun D σ H q => q.2
theorem rka_cons (ha : PE X e (rdC C g B ma)) (hr : PA X es (rdAC C g B ms)) (hs : starEach (e :: es) X.env = (false, eval e X.env) :: starEach es X.env := by rfl) : PA X (e :: es) (rdAC C g B (mCons ma ms)) :=
  (pa_cons ha hr hs).imp fun σ H Q ⟨c, bs, ρ, F, N, env, S, s, e, p⟩ => by
    refine ⟨c, bs, ρ, F, N, env, S, s, e, (Post.bind p).imp fun x H1 ⟨ρ1, F1, wx, S1, g1, s1, r1, p1⟩ => ?_⟩
    refine ⟨c, bs, ρ1, F1, N, env, S1, s1, e.mono g1, (Post.bind p1).imp fun y H2 ⟨ρ2, F2, wy, S2, g2, s2, r2, p2⟩ => ?_⟩
    exact p2 ρ2 F2 H2 _ (Grow.refl _ _) s2 (.cons (r1.mono g2) r2)
theorem rk_tup {x1} (h : PA X es (rdAC C g B ms)) : PE X (.Tuple es x1 pos) (rdC C g B (mTup ms)) := (pe_tup h).imp fun σ H Q ⟨c, bs, ρ, F, N, env, S, s, e, p⟩ => by
  refine ⟨c, bs, ρ, F, N, env, S, s, e, (Post.bind p).imp fun x H1 ⟨ρ1, F1, wx, S1, g1, s1, r1, p1⟩ => ?_⟩
  split at p1
  · rename_i hl
    refine ⟨line5 (by rw [r1.len]; exact hl), fun q hq => newT_ok s1 hq r1 p1⟩
  · exact p1.elim
theorem rk_op (σ : L2.St) (H : Hp) (Q : VK) (h : rdC C g B (mBin f ma mb) σ H Q) : tOp (rd2 g f) (rdC C g B ma) (rdC C g B mb) σ H Q := by
  obtain ⟨c, bs, ρ, F, N, env, S, s, e, p⟩ := h
  refine ⟨c, bs, ρ, F, N, env, S, s, e, (Post.bind p).imp fun x H1 ⟨ρ1, F1, wx, S1, g1, s1, r1, p1⟩ => ?_⟩
  refine ⟨c, bs, ρ1, F1, N, env, S1, s1, e.mono g1, (Post.bind p1).imp fun y H2 ⟨ρ2, F2, wy, S2, g2, s2, r2, p2⟩ => ?_⟩
  exact ⟨bs, ρ2, F2, N, S2, wx, wy, s2, r1.mono g2, r2, post_op p2⟩
theorem rk_bin {op : Operator} (ho : OpR X (binaryOp op) (rd2 g f)) (ha : PE X a (rdC C g B ma)) (hb : PE X b (rdC C g B mb)) : PE X (.BinOp a op b pos) (rdC C g B (mBin f ma mb)) := (pe_op ho ha hb).imp rk_op
theorem rk_cmp {op : CmpOp} (ho : OpR X (compareOp op) (rd2 g f)) (ha : PE X a (rdC C g B ma)) (hb : PE X b (rdC C g B mb)) (hm : behindInMarks op b = false := by first | exact nomark _ | rfl) : PE X (.Compare a [op] [b] pos) (rdC C g B (mBin f ma mb)) := (pe_cmpR ho ha hb hm).imp rk_op
theorem rk_callB {f : OpN} {x : Str} {id : String} {p : Pos} (hc : CallR X (.builtin id) (rdN g f)) (hg : Gl X x) (hm : X.mg x = none) (hv : bootBuiltins x = some (.builtin id)) (ha : PA X (e :: es) (rdAC C g B ms)) (hn : x ≠ "__name__" := by decide) (hdb : (x == ("__debug__" : Str)) = false := by decide)
    (he : starEach (e :: es) X.env = (false, eval e X.env) :: starEach es X.env := by rfl) (hpl : (backTo pos (starEach es X.env)).any (·.1) = false := by rfl) : PE X (.Call (.Name x p) (e :: es) [] pos) (rdC C g B (mCB f ms)) := (pe_callB hc hg hm hv ha hn hdb he hpl).imp fun σ H Q ⟨c, bs, ρ, F, N, env, S, s, e, p⟩ =>
  ⟨c, bs, ρ, F, N, env, S, s, e, (Post.bind p).imp fun x H1 ⟨ρ1, F1, wx, S1, g1, s1, r1, p1⟩ => ⟨bs, ρ1, F1, N, S1, wx, s1, r1, post_op p1⟩⟩
theorem rks_ret {p : Pos} (h : PE X e (rdC C g B ma)) : PSs X [.Return (some e) p] (rdSC C g B (sRet ma)) := (pss_one (ps_ret h)).imp fun D σ H ⟨c, bs, ρ, F, N, env, S, s, e, p⟩ => by
  refine ⟨c, bs, ρ, F, N, env, S, s, e, (PostS.out (R := RW g) e p).imp fun x H1 ⟨ρ1, F1, wx, S1, g1, s1, r1, p1⟩ => ?_⟩
  exact p1 ρ1 F1 H1 x (Grow.refl _ _) s1 r1
end
end Rf

namespace Rf
open PySem PySem.Spec L2 PyProof.Rows LamX

/-! ### a lambda without parameters, handed to a def that calls it -/
abbrev Lam := List Nat → Store → Out W
def mThunk (lam : Lam) : M W := fun bs _ S => lam bs S
def mLam (F : Lam → Lam) (m : M W) : M W := fun bs env S => F (fun bs' S' => m bs' env S') bs S
/-- a def of n names that gets a lambda -/
def fnL (n : Nat) (m : Lam → MS) : Lam → Lam := fun lam bs S => popR S.length (m lam (S.length :: bs) (List.replicate n none) S).out
def LamP (g : Gx) (σ : L2.St) (env : Env) (co : Addr) (q : Str) : List Addr → Hp → Prop := fun ρ F => EnvR g ρ F σ env ∧ F co = some (CodeO co q)
theorem lam_stays (g : Gx) (σ : L2.St) (env : Env) (co : Addr) (q : Str) : Stays (LamP g σ env co q) := fun ρ F ρ' F' gr h => ⟨h.1.mono gr, gr.ex _ _ h.2⟩
abbrev gL (g : Gx) (σ : L2.St) (env : Env) (co : Addr) (q : Str) : Gx := g.pin (LamP g σ env co q) (lam_stays g σ env co q)
abbrev slot0 (fv : Addr) : L2.St → Prop := fun τ => τ[0]? = some (some (.ref fv))
/-- what is handed may be called -/
def ActOk (X : Cx) (g : Gx) (fv : Addr) (a : Str) (lam : Lam) : Prop :=
  ∀ (W' : WX) (pq : List (Addr × Obj)) (xe : Value → Shared → Prop) (p1 p2 : Pos), Takes (X.tr pq xe) W' → PE (X.tr pq xe) (.Call (.Name a p1) [] [] p2) (rdC (slot0 fv) g W' (mThunk lam))
section
variable {g : Gx} {bs : List Nat} {ρ : List Addr} {F N H H' : Hp} {S : Store} {P : List Addr → Hp → Prop} {hP : Stays P}
theorem Sim.ext (s : Sim g bs ρ F N S H) (k : ExtN H H') (t : Tabs g.T H') : Sim g bs ρ F N S H' :=
  ⟨s.len, s.nd, fun a o e => k a o (s.ex a o e) fun ps z => s.nt a ps (by rw [e, z]), s.fr, fun n c a e1 e2 => by
    have x := s.cell n c a e1 e2
    obtain ⟨o, e⟩ := x.some
    exact x.mono (Grow.refl ρ F) (by rw [e, k a o e (CellOk.nt x o e).1]), fun a o e => k a o (s.hid a o e) (s.nl a o e).nt.1, s.nf, s.nl, s.bot, t, s.nt⟩
theorem PostS.pin {B : WX} {D : Ends} {o : SO} (h : PostS g B bs ρ F N D o) : PostS (g.pin P hP) B bs ρ F N D o := by
  cases o with
  | nx e S1 => exact fun ρ' F' H' σ' gr s e' => h ρ' F' H' σ' gr s.unpin e'.unpin
  | rt w S1 => exact fun ρ' F' H' v gr s r => h ρ' F' H' v gr s.unpin r
  | bk e S1 => exact fun ρ' F' H' σ' gr s e' => h ρ' F' H' σ' gr s.unpin e'.unpin
  | ct e S1 => exact fun ρ' F' H' σ' gr s e' => h ρ' F' H' σ' gr s.unpin e'.unpin
  | ex c ws e S1 => exact fun ρ' F' H' σ' d gr s e' r => h ρ' F' H' σ' d gr s.unpin e'.unpin r
  | stuck => exact h
end
section
variable {X : Cx} {g : Gx} {pins : List (Addr × Obj)} {σ : L2.St} {H : Hp} {s : Shared} {env : Env}
theorem act_ok {E0 : XK} {Ng : List Str} {qg a : Str} {sg : Scope} {ga fv co : Addr} {cdg pm ctv : Value} {params : Arguments} {body : Expr} {scope : Scope} {k : Nat} {m : M W}
    (inv : Inv X pins σ H s) (L : LamS X.env.scope scope) (lies : s.heap.get? fv = some (PySem.W.kla_obj "<lambda>" (X.env.qual ++ "<lambda>") params body scope (cloFrom X.env.cells scope.names []) pm co ctv)) (free : H fv = none) (off : fv ∉ frs X.stack)
    (hbind : bindArgs (PySem.W.kla_fn "<lambda>" (X.env.qual ++ "<lambda>") params body scope (cloFrom X.env.cells scope.names []) pm (.ref co) ctv) ⟨[], []⟩ = pure []) (hr : RoomG (k + 1) (X.A.deeper (envOfC qg sg s.heap.objs.size ga cdg)))
    (hbody : ∀ (A : Around) (outer : List PySem.Env) (s : Shared) (H : Hp) (E : XK), RoomG k (A.deeper (lamEnv X scope s.heap.objs.size fv co)) → PE (lamCx X A outer s H E scope fv co) body (rd g (fun c d _ H => E c d H) m))
    (hN : Ng[0]? = some a) (hv : Vis sg a) (hd : (a == ("__debug__" : Str)) = false) (hcd : (a == ("__classdict__" : Str)) = false) :
    ActOk (cxOf (L2.CX X.prog X.w) X.prog X.w X.K X.mg X.base Ng qg sg ga cdg X.A X.stack s H E0) (gL g σ env co (X.env.qual ++ "<lambda>")) fv a (fun bs' S' => m bs' env S') := by
  intro W' pq xe p1 p2 tk
  refine ⟨fun pinsZ sZ σZ HZ Q invZ ⟨hs, bs, ρ, F, N, envZ, S, sim, er, p⟩ => ?_⟩
  have known := er.more.2
  refine wpAny_Call_Name_kw (thn ((pe_var (pos := p1) (i := 0) hN hv hd hcd).run pinsZ sZ σZ HZ (fun v H1 => v = .ref fv ∧ H1 = HZ) invZ ⟨.ref fv, hs, rfl, rfl⟩) fun u s1 told => ?_)
  obtain ⟨v, H1, inv1, r1, ev, eH⟩ := told
  subst ev
  rw [eH] at inv1
  obtain rfl : u = Value.ref fv := r1
  have there : s1.heap.get? fv = some (PySem.W.kla_obj "<lambda>" (X.env.qual ++ "<lambda>") params body scope (cloFrom X.env.cells scope.names []) pm co ctv) := inv1.base.keep fv _ lies free off fun z => nomatch (show fv ∈ ([] : List Addr) from z)
  refine PySem.W.callWith_F0 ⟨_, _, _, _, there⟩ ?_
  have since : Un (frs X.stack) [] H HZ s.heap s1.heap := inv1.base
  obtain ⟨⟨oc, us, t, hoc, hdc, hvc⟩, _, _⟩ := inv1.hok co _ (sim.ex _ _ known.2)
  have told : rd g (fun c d _ H => WE W' σZ c d H) m σ HZ Q := by
    refine ⟨bs, ρ, F, N, env, S, sim.unpin, known.1, ?_⟩
    have p' : Post (gL g σ env co (X.env.qual ++ "<lambda>")) W' (RW _) bs ρ F N σZ Q (m bs env S) := p
    cases hm : m bs env S with
    | ok w S1 => rw [hm] at p'; exact fun ρ' F' H' v gr s r => p' ρ' F' H' v gr s.pin r
    | ex c ws S1 => rw [hm] at p'; exact fun ρ' F' H' d gr s r => p' ρ' F' H' d gr s.pin r
    | stuck => rw [hm] at p'; exact p'
  have ran : codeAny (model X.prog X.w) (X.A.deeper (envOfC qg sg s.heap.objs.size ga cdg)) (.call (.ref fv) ⟨[], []⟩) (CR (L2.CX X.prog X.w) (envOfC qg sg s.heap.objs.size ga cdg :: X.stack) X.prog X.w HZ s1 Q (WE W' σZ)) s1 := by
    refine PySem.W.kla_callFunE hr.rm.depth there rfl L.co L.gen rfl ⟨co, oc, us, t, rfl, hoc, hdc, hvc⟩ ?_
    rw [hbind]
    refine wpAny_pure (wpAny_newFunctionEnv (fun y hy => (L.own y hy).2) (fun y hy => absurd hy (by simp)) (fun h₁ hns hsb => ⟨inv1.nolimit.fresh _ hsb, ?_⟩) L.kind)
    show codeAny _ _ (.expr body (lamEnv X scope s1.heap.objs.size fv co)) _ _
    have kp : ∀ b o, s1.heap.get? b = some o → h₁.get? b = some o := by
      intro b o e
      exact hsb.extBut b o (Nat.ne_of_lt (Heap.lt_size e)) (Heap.get?_push_of_some _ e)
    have J := lam_start2 (E := WE W' σZ) (f := fv) (c' := co) (tk := s1.toks + ([] : List (Str × Value)).length) inv L inv1.env0 hr.rm.hd since hns kp
    refine PySem.W.kla_codeExpr (wpAny_mono ((hbody _ _ s1 HZ (WE W' σZ) (hr.deeper _)).run [] _ _ HZ Q J told) (fun v s' done => ?_) fun e s' z => z)
    obtain ⟨w', H', J', rv, q⟩ := done
    exact ⟨w', H', J'.os, J'.bare, J'.base, J'.hok, rv, q⟩
  refine wpAny_call (codeAny_mono ran fun r s' done => ?_)
  cases r with
  | error e => exact passAt tk σZ pinsZ HZ s1 e s' inv1 done
  | ok fl =>
    cases fl with
    | ret u => exact inv1.after done
    | next => exact done.elim
    | brk => exact done.elim
    | cont => exact done.elim
theorem re_lam {B : WX} {x a : Str} {ga co P : Addr} {k n : Nat} {fd : FuncData} {st : Stmt} {Ng : List Str} {params : Arguments} {body : Expr} {scope : Scope} {mc : Lam → MS} {m : M W} {p lpos pos : Pos} (tk : Takes X B)
    (hK : g.K = X.K) (hg : Gl X x) (hm : X.mg x = some (.ref ga)) (Fu : Fun X.K x x st ga fd) (Sg : FnScope Ng [a] (defScope st)) (hb : Binds X.K fd [a] []) (hn : Ng.length = n)
    (cal : ∀ (P : List Addr → Hp → Prop) (hP : Stays P) (cdv : Value) (A : Around) (outer : List PySem.Env) (s : Shared) (H : Hp) (E : XK) (fv : Addr) (lam : Lam), RoomG k (A.deeper (envOfC x (defScope st) s.heap.objs.size ga cdv)) →
      ActOk (cxOf (L2.CX X.prog X.w) X.prog X.w X.K X.mg X.base Ng x (defScope st) ga cdv A outer s H E) (g.pin P hP) fv a lam →
      PSs (cxOf (L2.CX X.prog X.w) X.prog X.w X.K X.mg X.base Ng x (defScope st) ga cdv A outer s H E) (defBody st) (rdSC (slot0 fv) (g.pin P hP) (fun c d _ H => E c d H) (mc lam)))
    (TB : TabB X.base X.mg co P) (hcode : X.env.code = .ref co) (hmT : (P, X.env.qual ++ "<lambda>") ∈ g.T) (hu : ∀ p ∈ g.T, p.1 = P → p.2 = X.env.qual ++ "<lambda>") (hr : RoomG (k + 1) X.A) (L : LamS X.env.scope scope) (hdef : defaultsOf params X.env = ([], []))
    (hbind : ∀ (q : Str) (cl : List (Str × Addr)) (pm cv ctv : Value), bindArgs (PySem.W.kla_fn "<lambda>" q params body scope cl pm cv ctv) ⟨[], []⟩ = pure [])
    (hbody : ∀ (A : Around) (outer : List PySem.Env) (s : Shared) (H : Hp) (E : XK) (f c' : Addr), RoomG (k - 1) (A.deeper (lamEnv X scope s.heap.objs.size f c')) → PE (lamCx X A outer s H E scope f c') body (rd g (fun c d _ H => E c d H) m)) (hk : 0 < k)
    (hva : Vis (defScope st) a := by first | exact Or.inl rfl | exact Or.inr (Or.inl rfl)) (hNg : Ng[0]? = some a := by rfl)
    (hdb : (x == ("__debug__" : Str)) = false := by decide) (hd : (a == ("__debug__" : Str)) = false := by decide) (hcd : (a == ("__classdict__" : Str)) = false := by decide) :
    PE X (.Call (.Name x p) [.Lambda params body scope lpos] [] pos) (rd g B (mLam (fnL n mc) m)) := by
  obtain ⟨oc, od, kV, doc, pm0, an, cdv, ct, osl, hfd, lk, hcg⟩ := Fu.ex
  subst hfd
  refine ⟨fun pins s σ H Q inv ⟨bs, ρ, F, N, env, S, sim, er, pst⟩ => ?_⟩
  refine wpAny_Call_Name_kw (ld_glob inv hg hm ?_ hdb)
  refine PySem.W.callWith_K (h₀ := X.base) inv.ok.mod.kin Fu.kp ?_ (by rfl) (by rfl)
  show wpAny _ _ (spliced ((false, eval (.Lambda params body scope lpos) X.env) :: backTo pos (starEach [] X.env))) _ _ s
  refine Calls.spliced_cons (lam_make2 inv TB hcode hmT hu sim.tab hdef (L.has inv.ok) fun fv co2 pm ctv H1 s1 inv1 eN T1 lies free off hco => ?_)
  refine Calls.spliced_nil ⟨inv1.kIn, ?_⟩
  have sim1 := sim.ext eN T1
  obtain ⟨F2, g2, sim2, at2⟩ := sim1.know hco (by unfold CodeO; exact id) (by unfold CodeO; exact fun _ _ _ z => nomatch z) (by unfold CodeO; exact fun _ _ z => nomatch z) (by unfold CodeO; exact fun _ z => nomatch z)
  have kn : LamP g σ env co2 (X.env.qual ++ "<lambda>") ρ F2 := ⟨er.mono g2, at2⟩
  have ran : codeAny (model X.prog X.w) X.A (.call (.ref ga) ⟨[.ref fv], []⟩) (CR (L2.CX X.prog X.w) X.stack X.prog X.w H1 s1 Q (WE B σ)) s1 := by
    refine run_ofS (CX := L2.CX X.prog X.w) (N := Ng) (ps := [a]) (us := [.ref fv]) (vs := [.ref fv]) lk hcg Sg hr.rm inv1.env0 (hb s1 [.ref fv] inv1.kIn rfl) (.cons rfl .nil) rfl fun _ => ?_
    obtain ⟨j, rfl⟩ : ∃ j, k = j + 1 := ⟨k - 1, by omega⟩
    have hr1 := hr.deeper (envOfC x (defScope st) s1.heap.objs.size ga cdv)
    have act := act_ok (E0 := WE B σ) (Ng := Ng) (qg := x) (sg := defScope st) (ga := ga) (cdg := cdv) (k := j) (m := m) (env := env) (g := g) inv1 L lies free off (hbind _ _ _ _ _) hr1 (fun A outer s H E r => hbody A outer s H E fv co2 r) hNg hva hd hcd
    refine ⟨_, cal _ _ cdv X.A X.stack s1 H1 (WE B σ) fv _ hr1 act, ?_⟩
    refine ⟨?_, S.length :: bs, ρ, F2, N, List.replicate n none, S, sim2.pin.pushB, ⟨by simp [L2.start, ← hn]; have := (List.getElem?_eq_some_iff.mp hNg).1; omega, fun i w h => ?_, (er.mono g2).more, kn⟩, ?_⟩
    · show (L2.start Ng [V.ref fv])[0]? = _
      rfl
    · rw [List.getElem?_replicate] at h
      split at h <;> cases h
    · refine PostS.pin (PostS.grow g2 ?_)
      exact post_pop sim.len (fun c hc => (sim.bot c hc).1) (post_at pst)
  refine wpAny_call (codeAny_mono ran fun r s2 done => ?_)
  cases r with
  | error e => exact passAt tk σ pins H1 s1 e s2 inv1 done
  | ok fl =>
    cases fl with
    | ret u => exact inv1.after done
    | next => exact done.elim
    | brk => exact done.elim
    | cont => exact done.elim
end
end Rf

namespace Rf
open PySem PySem.Spec L2 PyProof.Rows LamX

/-! ### the end, where lambdas are made: the tables of the defs' code objects lie there, empty -/
section
variable {P : Program} {w : World} {K : PySem.W.Frag} {mg mb : Str → Option Value} {k : Nat} {fa a : Addr} {fd : FuncData} {x : Str} {sp : Sp} {top : Shared} {vs : List Value} {ns : List Int} {cs : List (Addr × Addr)}
abbrev tabO : Obj := { cls := .none, data := .fields #[] }
structure TabsThere (K : PySem.W.Frag) (h : Heap) (cs : List (Addr × Addr)) : Prop where
  empty : ∀ p ∈ cs, h.get? p.2 = some tabO
  own : ∀ p ∈ cs, K.lookup p.2 = none
  head : ∀ p ∈ cs, PySem.W.CodeHd h p.1 p.2
theorem end_coreT (tt : TabsThere K top.heap cs) (H : Hp) (laid : ∀ p ∈ cs, H p.2 = some (.tbl #[])) (only : ∀ b, H b = none ∨ b ∈ cs.map (·.2) ∨ ∃ o xs, H b = some (.frz o (.lst xs))) (sq : SqL K H a (ns.map V.int)) (ok : HOk P w H top.heap)
    (one : ∀ b, H b ≠ none → b = a ∨ b ∈ cs.map (·.2)) (apart : a ∉ cs.map (·.2) → H a ≠ none → K.lookup a = none)
    (KX : K.In top.heap) (hns : top.heap.Ns mainGlobals mg) (hb : top.heap.Ns builtinsNs mb) (boot : ∀ x : Str, x ≠ "__name__" → mb x = bootBuiltins x) (lim : top.heap.NoLimit) (gens : top.gens = #[])
    (bmain : ∃ (bm : Addr) (ob : Obj), mg "__builtins__" = some (.ref bm) ∧ bm ≠ builtinsNs ∧ top.heap.get? bm = some ob ∧ ob.cls = .type "module" ∧ ob.dict = some builtinsNs ∧ ob.data = .plain)
    (lies : top.heap.get? a = some { cls := .type "list", data := .seq vs.toArray }) (room : Room k callerA)
    (F : ∀ base : Heap, K.In base → base.Ns mainGlobals mg → (∀ p ∈ cs, TabB base mg p.1 p.2) → FnG P w K mg base k fa fd [x] sp) (bind : ∀ (s : Shared) (u : Value), BindsTo s fd ⟨[u], []⟩ [(x, u)])
    (promise : sp [.ref a] H (fun v _ => v = .bl true) fun _ _ _ => False) :
    codeAny (model P w) callerA (.call (.ref fa) ⟨[.ref a], []⟩) (Held top) top := by
  have isTab : ∀ {b : Addr}, b ∈ cs.map (·.2) → top.heap.get? b = some tabO := by
    intro b hm
    obtain ⟨p, hp, rfl⟩ := List.mem_map.mp hm
    exact tt.empty p hp
  have noTab : a ∉ cs.map (·.2) := fun z => by
    have q := isTab z
    rw [lies] at q
    exact nomatch (show Data.seq vs.toArray _ = Data.fields #[] from congrArg Obj.data (Option.some.inj q))
  have seen : ∀ {b : Addr} {o : Obj}, top.heap.get? b = some o → H b = none → (hidT top.heap H).get? b = some o := fun e z => hidT_get e z
  have apartO : ∀ {b : Addr} {o : Obj}, top.heap.get? b = some o → (∀ us n, o.data ≠ .seq us n) → o.data ≠ .fields #[] → H b = none := by
    intro b o e n1 n2
    cases z : H b with
    | none => rfl
    | some u =>
      rcases one b (by rw [z]; simp) with rfl | hm
      · rw [lies] at e; cases e; exact (n1 _ _ rfl).elim
      · rw [isTab hm] at e; cases e; exact (n2 rfl).elim
  have apartD : ∀ {b : Addr} {o : Obj} {es : Array DictEntry} {ep : Nat}, top.heap.get? b = some o → o.data = .dict es ep → H b = none := fun e d => apartO e (fun _ _ z => by rw [d] at z; cases z) fun z => by rw [d] at z; cases z
  have names : ∀ {b : Addr} {m : Str → Option Value}, top.heap.Ns b m → (hidT top.heap H).Ns b m := fun q =>
    let ⟨o, es, ep, e, d, r⟩ := q
    ⟨o, es, ep, seen e (apartD e d), d, r⟩
  have KB : K.In (hidT top.heap H) := by
    intro b o e
    refine seen (KX b o e) ?_
    cases z : H b with
    | none => rfl
    | some u =>
      rcases one b (by rw [z]; simp) with rfl | hm
      · rw [apart noTab (by rw [z]; simp)] at e; cases e
      · obtain ⟨p, hp, rfl⟩ := List.mem_map.mp hm
        rw [tt.own p hp] at e; cases e
  obtain ⟨mc, l1, l2⟩ := lim
  have modul : Mod K mg (hidT top.heap H) := ⟨KB, names hns, ⟨mb, names hb, boot⟩, ⟨mc, names l1, l2⟩⟩
  have tables : ∀ p ∈ cs, TabB (hidT top.heap H) mg p.1 p.2 := by
    intro p hp
    have ep := tt.empty p hp
    refine ⟨?_, ?_, fun z => ?_⟩
    · obtain ⟨o, us, file, tf, flags, tg, inF, text, t9, e1, r1, r2, r3, r⟩ := tt.head p hp
      exact ⟨o, us, file, tf, flags, tg, inF, text, t9, seen e1 (apartO e1 (fun _ _ z => by rw [r2] at z; cases z) fun z => by rw [r2] at z; cases z; simp at r3), r1, r2, r3, r⟩
    · obtain ⟨bm, ob, b1, b2, b3, b4, b5, b6⟩ := bmain
      refine ⟨bm, ob, b1, b2, fun q => ?_, fun q => ?_, seen b3 (apartO b3 (fun _ _ z => by rw [b6] at z; cases z) fun z => by rw [b6] at z; cases z), b4, b5, b6⟩
      · obtain ⟨o, es, e9, e, d, _⟩ := hns
        rw [q, e] at b3; cases b3; rw [d] at b6; cases b6
      · rw [q, ep] at b3; cases b3; cases b6
    · obtain ⟨o, es, e9, e, d, _⟩ := hns
      rw [z, ep] at e; cases e; cases d
  have noFrame : ∀ b, b ∈ ([] : List Addr) → False := fun b q => nomatch q
  have e0 : Env0 P w K mg (hidT top.heap H) callerA [] top H := ⟨rfl, modul, fun b o e => of_hidT e, Nat.le_of_eq (hidT_size _ _), trivial, fun b q => (noFrame b q).elim, ok, .of_eq gens⟩
  have ran := (F _ KB (names hns) tables).go callerA [] top H ⟨[.ref a], []⟩ [.ref a] [.ref a] _ _ (room_top k room) e0 (bind top (.ref a)) (.cons rfl .nil) promise
  refine codeAny_mono ran fun r t done => ?_
  cases r with
  | error e =>
    obtain ⟨_, _, _, _, _, _, _, _, _, _, _, _, _, z⟩ := done
  | ok fl =>
    cases fl with
    | next => exact done.elim
    | brk => exact done.elim
    | cont => exact done.elim
    | ret u =>
      obtain ⟨v, H', os, bare, kept, ok', rel, rfl⟩ := done
      obtain rfl : u = Value.bool true := rel
      have same : ∀ b o, b ∉ cs.map (·.2) → top.heap.get? b = some o → t.heap.get? b = some o := by
        intro b o nb e
        rcases only b with z | z | ⟨ob, xs, z⟩
        · exact kept.keep b o e z (fun q => noFrame b q) (by simp)
        · exact absurd z nb
        · obtain ⟨e1, _⟩ := ok b _ z
          obtain ⟨e2, _⟩ := ok' b _ (kept.frzs b ob _ z)
          rw [e] at e1; cases e1
          exact e2
      have grown : ∀ p ∈ cs, ∃ more : Array Value, t.heap.get? p.2 = some { cls := .none, data := .fields more } := by
        intro p hp
        obtain ⟨more, z⟩ := kept.tbls p.2 #[] (laid p hp)
        exact ⟨_, ok' p.2 _ z⟩
      refine ⟨rfl, ⟨fun b o e => ?_, fun b o e => ?_⟩, os, bare⟩
      · by_cases hm : b ∈ cs.map (·.2)
        · obtain ⟨p, hp, rfl⟩ := List.mem_map.mp hm
          obtain ⟨more, g⟩ := grown p hp
          rw [tt.empty p hp] at e
          cases e
          exact .inr (.inl ⟨((tt.head p hp).tab (tt.empty p hp)).isCodeTable, rfl, #[], more, rfl, by rw [Array.empty_append]; exact g⟩)
        · exact .inl (same b o hm e)
      · by_cases hm : b ∈ cs.map (·.2)
        · obtain ⟨p, hp, rfl⟩ := List.mem_map.mp hm
          obtain ⟨more, g⟩ := grown p hp
          exact ⟨_, g⟩
        · exact ⟨o, same b o hm e⟩
theorem law_endT (tt : TabsThere K top.heap cs) (KX : K.In top.heap) (hns : top.heap.Ns mainGlobals mg) (hb : top.heap.Ns builtinsNs mb) (boot : ∀ x : Str, x ≠ "__name__" → mb x = bootBuiltins x) (lim : top.heap.NoLimit) (gens : top.gens = #[])
    (bmain : ∃ (bm : Addr) (ob : Obj), mg "__builtins__" = some (.ref bm) ∧ bm ≠ builtinsNs ∧ top.heap.get? bm = some ob ∧ ob.cls = .type "module" ∧ ob.dict = some builtinsNs ∧ ob.data = .plain)
    (lies : top.heap.get? a = some { cls := .type "list", data := .seq vs.toArray }) (nums : IntsAre vs ns) (many : ns.length ≤ sizeLine) (room : Room k callerA)
    (F : ∀ base : Heap, K.In base → base.Ns mainGlobals mg → (∀ p ∈ cs, TabB base mg p.1 p.2) → FnG P w K mg base k fa fd [x] sp) (bind : ∀ (s : Shared) (u : Value), BindsTo s fd ⟨[u], []⟩ [(x, u)])
    (promise : ∀ H : Hp, (∀ p ∈ cs, H p.2 = some (.tbl #[])) → SqL K H a (ns.map V.int) → sp [.ref a] H (fun v _ => v = .bl true) fun _ _ _ => False) :
    codeAny (model P w) callerA (.call (.ref fa) ⟨[.ref a], []⟩) (Held top) top := by
  have rv := vals_ints nums
  have lv := nums.length
  have isTab : ∀ {b : Addr}, b ∈ cs.map (·.2) → top.heap.get? b = some tabO := by
    intro b hm
    obtain ⟨p, hp, rfl⟩ := List.mem_map.mp hm
    exact tt.empty p hp
  have noTab : a ∉ cs.map (·.2) := fun z => by
    have q := isTab z
    rw [lies] at q
    exact nomatch (show Data.seq vs.toArray _ = Data.fields #[] from congrArg Obj.data (Option.some.inj q))
  have memT : ∀ p ∈ cs, p.2 ∈ cs.map (·.2) := fun p hp => List.mem_map.mpr ⟨p, hp, rfl⟩
  cases own : K.lookup a with
  | some o =>
    have e := KX a o own
    rw [lies] at e
    cases e
    let H : Hp := fun b => if b ∈ cs.map (·.2) then some (.tbl #[]) else none
    have atT : ∀ {b}, b ∈ cs.map (·.2) → H b = some (.tbl #[]) := fun z => if_pos z
    have off : ∀ {b}, b ∉ cs.map (·.2) → H b = none := fun z => if_neg z
    have laid : ∀ p ∈ cs, H p.2 = some (.tbl #[]) := fun p hp => atT (memT p hp)
    have sq : SqL K H a (ns.map V.int) := .inr ⟨_, vs.toArray, _, own, rfl, rfl, rfl, by rw [List.size_toArray, lv]; exact many, by simpa using rv⟩
    refine end_coreT tt H laid (fun b => ?_) sq (fun b u z => ?_) (fun b z => ?_) (fun _ z => absurd (off noTab) z) KX hns hb boot lim gens bmain lies room F bind (promise _ laid sq)
    · by_cases q : b ∈ cs.map (·.2)
      · exact .inr (.inl q)
      · exact .inl (off q)
    · by_cases q : b ∈ cs.map (·.2)
      · rw [atT q] at z; cases z; exact isTab q
      · rw [off q] at z; cases z
    · by_cases q : b ∈ cs.map (·.2)
      · exact .inr q
      · exact absurd (off q) z
  | none =>
    let H : Hp := fun b => if b = a then some (.frz { cls := .type "list", data := .seq vs.toArray } (.lst (ns.map V.int))) else if b ∈ cs.map (·.2) then some (.tbl #[]) else none
    have at_ : H a = some (.frz { cls := .type "list", data := .seq vs.toArray } (.lst (ns.map V.int))) := if_pos rfl
    have atT : ∀ {b}, b ∈ cs.map (·.2) → H b = some (.tbl #[]) := fun {b} z => (if_neg (show ¬ b = a from fun q => noTab (q ▸ z))).trans (if_pos z)
    have off : ∀ {b}, b ≠ a → b ∉ cs.map (·.2) → H b = none := fun z1 z2 => (if_neg z1).trans (if_neg z2)
    have laid : ∀ p ∈ cs, H p.2 = some (.tbl #[]) := fun p hp => atT (memT p hp)
    have sq : SqL K H a (ns.map V.int) := .inl (.inr ⟨_, at_⟩)
    refine end_coreT tt H laid (fun b => ?_) sq (fun b u z => ?_) (fun b z => ?_) (fun _ _ => own) KX hns hb boot lim gens bmain lies room F bind (promise _ laid sq)
    · by_cases z : b = a
      · subst z; exact .inr (.inr ⟨_, _, at_⟩)
      · by_cases q : b ∈ cs.map (·.2)
        · exact .inr (.inl q)
        · exact .inl (off z q)
    · by_cases q : b = a
      · subst q
        rw [at_] at z
        cases z
        exact ⟨lies, by rw [List.length_map]; exact many, vs, _, rv, lies⟩
      · by_cases q2 : b ∈ cs.map (·.2)
        · rw [atT q2] at z; cases z; exact isTab q2
        · rw [off q q2] at z; cases z
    · by_cases q : b = a
      · exact .inl q
      · by_cases q2 : b ∈ cs.map (·.2)
        · exact .inr q2
        · exact absurd (off q q2) z
end
/-- what is known of the law's def where the top has run -/
def LawThere (l : PySem.W.OpenLaw) (w : World) (K : PySem.W.Frag) (k n : Nat) (x : Str) (mg : Str → Option Value) (fa : Addr) (h : Heap) : Prop :=
  ∃ (fd : FuncData) (cs : List (Addr × Addr)) (sp : Sp), TabsThere K h cs ∧ (∀ (s : Shared) (u : Value), BindsTo s fd ⟨[u], []⟩ [(x, u)]) ∧
    (∀ (H : Hp) (a : Addr) (ns : List Int), ns.length ≤ n → (∀ z ∈ ns, Builtin.Int.intBits z ≤ 1048576) → (∀ p ∈ cs, H p.2 = some (.tbl #[])) → SqL K H a (ns.map V.int) → sp [.ref a] H (fun v _ => v = .bl true) fun _ _ _ => False) ∧
    ∀ base : Heap, K.In base → base.Ns mainGlobals mg → (∀ p ∈ cs, TabB base mg p.1 p.2) → FnG l.prog w K mg base k fa fd [x] sp
theorem walk_endT {l : PySem.W.OpenLaw} {n k : Nat} {q : Program} {loose : List Str} {XP : (Str → Option Value) → Heap → Prop} {YP : World → Heap → Prop} {d : DefRec} {K : Params → PySem.W.Frag} {x : Str}
    (hn : l.most = some n) (few : n ≤ sizeLine) (plain : d.params.defaults = []) (room : Room k callerA) (known : ∀ (w : World) (h : Heap), YP w h → (K w.params).In h)
    (F : ∀ (w : World) (mean : ExcName → Option Value) (mg mb : Str → Option Value) (fa : Addr) (h : Heap), Top q (PySem.W.looseW q loose) mean mg mb h → (K w.params).In h → h.Ns mainGlobals mg → mg d.name = some (.ref fa) → LawThere l w (K w.params) k n x mg fa h) :
    PySem.W.WalkO q loose XP YP l.row.toRowW d [] (fun f vs => PySem.call f vs) :=
  Att.attach_callB hn plain fun w s0 s1 mg mb fa o pm cd doc a vs ns G Y _ _ _ main lies nums len bits gens =>
    let KX := known w _ Y
    let ⟨fd, cs, sp, tt, bind, promise, FF⟩ := F w _ mg mb fa _ G.T KX G.T.g main
    law_endT tt KX G.T.g G.T.b G.T.builtins G.T.nolimit gens G.T.bmain lies nums (Nat.le_trans len few) room FF bind fun H laid sq => promise H a ns len bits laid sq
/-- a def's table, by its name -/
def has1 (q : Program) (x : Str) : Bool := ((recsOf q).find? fun e => e.name == x).isSome
theorem tab_there {q : Program} {loose : List Str} {mean : ExcName → Option Value} {mg mb : Str → Option Value} {h : Heap} {K : PySem.W.Frag} {x : Str} {c P : Addr} (T : Top q loose mean mg mb h) (X : K.In h) (hr : has1 q x = true) (ht : PySem.W.tabIn K x = some (c, P)) :
    PySem.W.CodeHd h c P ∧ h.get? P = some tabO := by
  unfold has1 at hr
  cases e : (recsOf q).find? fun e => e.name == x with
  | none => rw [e] at hr; cases hr
  | some d => exact PySem.W.tab_of T X e ht
end Rf

namespace Rf
open PySem PySem.Spec L2 PyProof.Rows LamX

section
variable {X : Cx} {g : Gx} {B : WX} {C : L2.St → Prop} {e : Expr} {ma : M W} {ms : M (List W)} {pos : Pos} {st : Stmt} {rest : List Stmt} {m n : MS}
theorem rk_expr (h : PE X e (rdC C g B ma)) (hs : swapsWith e none pos.line X.env = pure false := by rfl) : PS X (.Expr e pos) (rdSC C g B (sDrop ma)) := (ps_expr h hs).imp fun D σ H ⟨c, bs, ρ, F, N, env, S, s, e, p⟩ => by
  refine ⟨c, bs, ρ, F, N, env, S, s, e, (PostS.out (R := RW g) e p).imp fun x H1 ⟨ρ1, F1, wx, S1, g1, s1, r1, p1⟩ => ?_⟩
  exact p1 ρ1 F1 H1 σ (Grow.refl _ _) s1 (e.mono g1)
theorem rks_cons (h : PS X st (rdSC C g B m)) (k : PSs X rest (rdS g B n)) : PSs X (st :: rest) (rdSC C g B (sSeq m n)) := (pss_cons h k).imp fun D σ H ⟨c, bs, ρ, F, N, env, S, s, e, p⟩ => by
  refine ⟨c, bs, ρ, F, N, env, S, s, e, ?_⟩
  unfold sSeq at p
  cases hm : m bs env S with
  | nx e1 S1 => rw [hm] at p; exact fun ρ' F' H' σ' gr s' e' => ⟨bs, ρ', F', N, e1, S1, s', e', PostS.grow gr p⟩
  | rt w S1 => rw [hm] at p; exact p
  | bk e1 S1 => rw [hm] at p; exact p
  | ct e1 S1 => rw [hm] at p; exact p
  | ex c ws e1 S1 => rw [hm] at p; exact p
  | stuck => rw [hm] at p; exact p
theorem rs_raise1f {c : Nat} {fl : Str} (hf : g.fld c = fl) (h : PS X st fun _ σ H => rdA g B ms σ H fun vs H1 => ∃ v, vs = [v] ∧ ∀ d, H1 d = none → B (.ref (g.cls c)) (some d) σ (upd H1 d (.xd [(fl, v)]))) : PS X st (rdS g B (sRaise1 c ms)) := by
  subst hf; exact rs_raise1 h
end
theorem uniq_of {l : List (Addr × Str)} (h : (l.map (·.1)).Nodup) {P : Addr} {q : Str} (hm : (P, q) ∈ l) : ∀ p ∈ l, p.1 = P → p.2 = q := by
  induction l with
  | nil => intro p hp; cases hp
  | cons y l ih =>
    rw [List.map_cons, List.nodup_cons] at h
    intro p hp e
    rcases List.mem_cons.mp hm with z | z <;> rcases List.mem_cons.mp hp with z2 | z2
    · rw [z2, ← z]
    · exfalso; refine h.1 (List.mem_map.mpr ⟨p, z2, ?_⟩); rw [e, ← z]
    · exfalso; refine h.1 (List.mem_map.mpr ⟨_, z, ?_⟩); rw [← z2]; exact e.symm
    · exact ih h.2 z p z2 e
/-! ### the law's promise -/
def spLawT (K : PySem.W.Frag) (n : Nat) (T : List (Addr × Str)) : Sp := fun vs H Q E => ∃ (a : Addr) (ns : List Int), vs = [.ref a] ∧ ns.length ≤ n ∧ (∀ z ∈ ns, Builtin.Int.intBits z ≤ 1048576) ∧ SqL K H a (ns.map V.int) ∧ (∀ p ∈ T, H p.1 = some (.tbl #[])) ∧ ∀ H', Q (.bl true) H'
theorem promiseT {n : Nat} {f : FnT} (right : ∀ ns : List Int, ns.length ≤ n → (∀ z ∈ ns, Builtin.Int.intBits z ≤ 1048576) → ∃ S, f [] [.lw (ns.map fun n => .dat (.int n))] [] = .ok (.bl true) S) (g : Gx) (hm : ∀ ρ F, g.more ρ F)
    (vs : List V) (H : Hp) (Q : VK) (E : XK) (h : spLawT g.K n g.T vs H Q E) : spF g f vs H Q E := by
  obtain ⟨a, ns, rfl, hl, hb, sq, tb, q⟩ := h
  obtain ⟨S, e⟩ := right ns hl hb
  let F0 : Hp := fun b => match H b with
    | some (.tbl _) => none
    | o => o
  have f0 : ∀ {b o}, F0 b = some o → H b = some o ∧ ∀ ps, o ≠ .tbl ps := by
    intro b o e
    have e' : (match H b with
      | some (.tbl _) => none
      | o => o) = some o := e
    split at e'
    · cases e'
    · rename_i n; exact ⟨e', fun ps z => n ps (by rw [e', z])⟩
  have sq0 : SqL g.K F0 a (ns.map V.int) := by
    have back : ∀ {b o}, H b = some o → (∀ ps, o ≠ .tbl ps) → F0 b = some o := by
      intro b o e no
      show (match H b with
        | some (.tbl _) => none
        | o => o) = some o
      rw [e]
      cases o <;> first | rfl | exact (no _ rfl).elim
    rcases sq with (h | ⟨o, h⟩) | h
    · exact .inl (.inl (back h fun _ z => nomatch z))
    · exact .inl (.inr ⟨o, back h fun _ z => nomatch z⟩)
    · exact .inr h
  have told : ∀ l : List Int, IsAll g.K [] F0 (l.map V.int) (l.map fun n => .dat (.int n)) := fun l => by
    induction l with
    | nil => exact .nil
    | cons n l ih => exact .cons (.dat (.int n)) ih
  have sim : Sim g [] [] F0 (fun _ => none) [] H := ⟨rfl, List.nodup_nil, fun b o e => (f0 e).1, fun n c a z => (by simp at z), fun n c a z => (by simp at z), fun a u z => (nomatch (show (none : Option HO) = some u from z)), fun a u z => (nomatch (show (none : Option HO) = some u from z)), fun a u z => (nomatch (show (none : Option HO) = some u from z)), fun b z => (nomatch z),
    fun p hp => TabS.nil (tb p hp), fun a ps e => (f0 e).2 ps rfl⟩
  refine ⟨[], [], F0, fun _ => none, [], _, sim, .cons (.lw sq0 (told ns)) .nil, hm _ _, ?_⟩
  rw [e]
  intro ρ' F' H' v gr sim' r
  cases r with
  | dat r => cases r; exact q H'
end Rf
namespace Rf
open PySem PySem.Spec L2 PyProof.Rows
theorem suite_one {X : Cx} {g : Gx} {errs : List Nat} {cat : Nat → Nat → Bool} {c c0 : Nat} {i : Option Nat} {m : List W → MS} {suite : List Stmt} (h : ∀ k ∈ errs, cat k c = true → k = c0)
    (p : ∀ (ws : List W) (d : Option Addr) (ea : Addr) (eo : Obj) (pq : List (Addr × Obj)), Zc (.ref (g.cls c0)) d eo → (∃ us, eo.data = .fields us) → PSs (X.suite ea ((ea, eo) :: pq)) suite (rdSC (slotOf i ea) (gK g c0 ws d) (fun _ _ _ _ => False) (m ws))) : SuiteR X g errs cat c i m suite :=
  fun k ws d ea eo pq hc hm hz hd => by
    obtain rfl := h k hm hc
    exact p ws d ea eo pq hz hd
end Rf
namespace Rf
open PySem PySem.Spec L2 PyProof.Rows
theorem tabs_nil {K : PySem.W.Frag} {h : Heap} : TabsThere K h [] := ⟨fun _ z => (nomatch z), fun _ z => (nomatch z), fun _ z => (nomatch z)⟩
theorem tabs_cons {K : PySem.W.Frag} {h : Heap} {c P : Addr} {cs : List (Addr × Addr)} (h1 : PySem.W.CodeHd h c P ∧ h.get? P = some tabO) (h2 : K.lookup P = none) (r : TabsThere K h cs) : TabsThere K h ((c, P) :: cs) :=
  ⟨fun p hp => by
    rcases List.mem_cons.mp hp with z | z
    · subst z; exact h1.2
    · exact r.empty p z, fun p hp => by
    rcases List.mem_cons.mp hp with z | z
    · subst z; exact h2
    · exact r.own p z, fun p hp => by
    rcases List.mem_cons.mp hp with z | z
    · subst z; exact h1.1
    · exact r.head p z⟩
theorem has_of {q : Program} {xs : List Str} (h : xs.all (has1 q) = true) {x : Str} (hx : x ∈ xs) : has1 q x = true := List.all_eq_true.mp h x hx
end Rf
namespace Rf
open PySem L2 PyProof.Rows
theorem un100m {A : Around} {k : Nat} {h : Option Value} (r : RoomG k A) : (A.mark h).units + 100 < cLine := (show A.units + 100 < cLine from un100 r)
theorem gd_m {A : Around} {k : Nat} {h : Option Value} (r : RoomG k A) : (A.mark h).guards = some [] := (show A.guards = some [] from r.gd)
end Rf
namespace Rf
open PySem L2 PyProof.Rows
theorem exm_mk {K : PySem.W.Frag} {S C : Addr} {b : Bool} (h1 : PySem.W.subIn K (.ref C) (.type "BaseException") = some true) (h2 : PySem.W.isClsIn K C = true) (h3 : PySem.W.typeIn K (.ref C) = some (.type "type")) (h4 : PySem.W.subIn K (.ref S) (.ref C) = some b) : PySem.W.exmOne K (.ref S) (.ref C) = some b := by
  have e1 : (PySem.W.subIn K (.ref C) (.type "BaseException") == some true) = true := by rw [h1]; rfl
  have e2 : ((PySem.W.clsIn K C).isSome && PySem.W.typeIn K (.ref C) == some (.type "type")) = true := by
    have q : (PySem.W.clsIn K C).isSome = true := h2
    rw [q, h3]; rfl
  unfold PySem.W.exmOne PySem.W.kitCls
  rw [if_pos e1]; dsimp only; rw [if_pos e2]; exact h4
theorem tab_in {K : PySem.W.Frag} {x : Str} {f c P : Addr} {oc : Value} {od : Option Addr} {fd : FuncData} {sl : Array (Option Value)} {o2 : Value} {d2 : Option Addr} {vs : Array Value} {s2 : Array (Option Value)}
    (hm : PySem.W.nsIn K mainGlobals x = some (some (.ref f))) (hf : K.lookup f = some ⟨oc, od, .func fd, sl⟩) (hc : fd.code = .ref c) (hl : K.lookup c = some ⟨o2, d2, .fields vs, s2⟩) (hv : vs[11]? = some (.ref P)) : PySem.W.tabIn K x = some (c, P) := by
  unfold PySem.W.tabIn
  simp only [hm, hf, hc, hl, hv]
end Rf

namespace Rf
open PySem PySem.Spec L2 PyProof.Rows

/-! ### a dict is not equal to what is no dict -/
abbrev dicO (dd : Option Addr) (es : Array DictEntry) (ep : Nat) (sl : Array (Option Value)) : Obj := { cls := .type "dict", dict := dd, data := .dict es ep, slots := sl }
abbrev kindO (T : String) (dd : Option Addr) (da : Data) (sl : Array (Option Value)) : Obj := { cls := .type T, dict := dd, data := da, slots := sl }
section
variable {d b : Addr} {da2 : Data} {es : Array DictEntry} {ep n2 : Nat} {dd dd2 : Option Addr} {sl sl2 : Array (Option Value)} {its : Array Value}
theorem dic_no_tuple : Meets (Builtin.«dict.__eq__» ⟨[.ref d, .ref b], []⟩) fun _ R s => s.heap.get? d = some (dicO dd es ep sl) ∧ s.heap.get? b = some (kindO "tuple" dd2 (.seq its n2) sl2) ∧ R (.ok (.ret .notImplemented)) s := by
  refine .of_wp fun prog w A R s h => ?_
  obtain ⟨hp, g, dr, tk, os⟩ := s
  obtain ⟨hl, hb, h⟩ := h
  have sub := F.sub_tuple_dict
  wp_walk using wpAny_loadPart' hl, wpAny_loadPart' hb
  exact ⟨_, rfl, h⟩
theorem tuple_no_dic : Meets (Builtin.«tuple.__eq__» ⟨[.ref b, .ref d], []⟩) fun _ R s => s.heap.get? b = some (kindO "tuple" dd2 (.seq its n2) sl2) ∧ s.heap.get? d = some (dicO dd es ep sl) ∧ R (.ok (.ret .notImplemented)) s := by
  refine .of_wp fun prog w A R s h => ?_
  obtain ⟨hp, g, dr, tk, os⟩ := s
  obtain ⟨hl, hb, h⟩ := h
  have sub := F.sub_dict_tuple
  wp_walk using wpAny_loadPart' hl, wpAny_loadPart' hb
  exact ⟨_, rfl, h⟩
end
theorem wpAny_isSame_ref_dic {M : Model} {A : Around} {E : Value → Shared → Prop} {s : Shared} {x y : Addr} {T : String} {dd dd2 : Option Addr} {es : Array DictEntry} {ep : Nat} {sl sl2 : Array (Option Value)} {da : Data} {R : Bool → Shared → Prop} (ne : x ≠ y) (hx : s.heap.get? x = some (dicO dd es ep sl)) (hy : s.heap.get? y = some (kindO T dd2 da sl2)) (q : R false s) : wpAny M A (isSame (.ref x) (.ref y)) R E s := by
  show wpAny M A (if (x == y) = true then pure true else _) R E s
  rw [if_neg (by simpa using ne)]
  refine wpAny_bind (wpAny_load hx (wpAny_bind (wpAny_load hy ?_)))
  split
  · rename_i h1 _ _ _; exact absurd h1 (by simp)
  · exact wpAny_pure q
theorem wpAny_isSame_dic_ref {M : Model} {A : Around} {E : Value → Shared → Prop} {s : Shared} {x y : Addr} {T : String} {dd dd2 : Option Addr} {es : Array DictEntry} {ep : Nat} {sl sl2 : Array (Option Value)} {da : Data} {R : Bool → Shared → Prop} (ne : x ≠ y) (hx : s.heap.get? x = some (dicO dd es ep sl)) (hy : s.heap.get? y = some (kindO T dd2 da sl2)) (q : R false s) : wpAny M A (isSame (.ref y) (.ref x)) R E s := by
  show wpAny M A (if (y == x) = true then pure true else _) R E s
  rw [if_neg (by simpa using Ne.symm ne)]
  refine wpAny_bind (wpAny_load hy (wpAny_bind (wpAny_load hx ?_)))
  split
  · rename_i _ h2 _ _; exact absurd h2 (by simp)
  · exact wpAny_pure q
section
variable {A : Around} {s : Shared} {d : Addr} {dd : Option Addr} {es : Array DictEntry} {ep : Nat} {sl : Array (Option Value)}
theorem rc_dic_tuple (hl : s.heap.get? d = some (dicO dd es ep sl)) {b : Addr} {its : Array Value} (hb : s.heap.IsTuple b its) (hu : A.units < cLine) : SeqAt.RcAt A s (.ref d) (.ref b) false := fun prog w E Q h => by
  obtain ⟨⟨c2, dd2, da2, sl2⟩, ho2, hc2, n2, hd2⟩ := id hb
  simp only at hc2 hd2
  subst hc2 hd2
  have ne : d ≠ b := fun e => by
    subst e
    rw [hl] at ho2
    exact absurd (congrArg Obj.cls (Option.some.inj ho2)) (by simp)
  exact (SeqAt.rc_eq_decline_or (k := false) ⟨_, hl, rfl⟩ ⟨_, ho2, rfl⟩ (by decide) F.sub_tuple_dict F.slot_dict_eq F.slot_tuple_eq_refl
    (fun _ q => call_meets F.slot_dict_eq ⟨_, hl, rfl⟩ F.entry_dict_eq (F.args_dict_eq_2 _ _) dic_no_tuple ⟨hl, ho2, q⟩)
    (fun _ q => call_meets F.slot_tuple_eq_refl ⟨_, ho2, rfl⟩ F.entry_tuple_eq (F.args_tuple_eq_2 _ _) tuple_no_dic ⟨ho2, hl, q⟩)
    (fun _ q => wpAny_isSame_ref_dic ne hl ho2 q) (.inr hu) h)
theorem rc_tuple_dic (hl : s.heap.get? d = some (dicO dd es ep sl)) {b : Addr} {its : Array Value} (hb : s.heap.IsTuple b its) (hu : A.units < cLine) : SeqAt.RcAt A s (.ref b) (.ref d) false := fun prog w E Q h => by
  obtain ⟨⟨c2, dd2, da2, sl2⟩, ho2, hc2, n2, hd2⟩ := id hb
  simp only at hc2 hd2
  subst hc2 hd2
  have ne : d ≠ b := fun e => by
    subst e
    rw [hl] at ho2
    exact absurd (congrArg Obj.cls (Option.some.inj ho2)) (by simp)
  exact (SeqAt.rc_eq_decline_or (k := false) ⟨_, ho2, rfl⟩ ⟨_, hl, rfl⟩ (by decide) F.sub_dict_tuple F.slot_tuple_eq F.slot_dict_eq_refl
    (fun _ q => call_meets F.slot_tuple_eq ⟨_, ho2, rfl⟩ F.entry_tuple_eq (F.args_tuple_eq_2 _ _) tuple_no_dic ⟨ho2, hl, q⟩)
    (fun _ q => call_meets F.slot_dict_eq_refl ⟨_, hl, rfl⟩ F.entry_dict_eq (F.args_dict_eq_2 _ _) dic_no_tuple ⟨hl, ho2, q⟩)
    (fun _ q => wpAny_isSame_dic_ref ne hl ho2 q) (.inr hu) h)
end
end Rf
namespace Rf
open PySem PySem.Spec L2 PyProof.Rows
theorem dicH_obj {P : Program} {w : World} {H : Hp} {h : Heap} {a : Addr} {n : Nat} {vs : List (PyData × V)} (ok : HOk P w H h) (d : DicH H a n vs) : ∃ dd es ep sl, h.get? a = some (dicO dd es ep sl) := by
  cases d with
  | k hk =>
    obtain ⟨_, _, vs, _, o, es, ep, h1, h2, h3, _⟩ := dk_rd ok hk
    obtain ⟨c1, c2, c3, c4⟩ := o
    have h2' : c1 = .type "dict" := h2.1
    have h3' : c3 = .dict es ep := h3
    subst h2' h3'
    exact ⟨_, _, _, _, h1⟩
  | t hk =>
    obtain ⟨_, _, xs, _, o, es, ep, h1, h2, h3, _⟩ := dt_rd ok hk
    obtain ⟨c1, c2, c3, c4⟩ := o
    have h2' : c1 = .type "dict" := h2.1
    have h3' : c3 = .dict es ep := h3
    subst h2' h3'
    exact ⟨_, _, _, _, h1⟩
def isTupD : PyData → Bool
  | .tuple ds => PyData.plainAll ds
  | _ => false
/-- a dict beside a tuple -/
def eqDT : Op2 := fun _ x y S => match dicOf S x, viewD S y with
  | some _, some d => if isTupD d = true then some (.bl false, S) else none
  | _, _ => match viewD S x, dicOf S y with
    | some d, some _ => if isTupD d = true then some (.bl false, S) else none
    | _, _ => none
theorem ro_eqDT {X : Cx} {g : Gx} (hK : g.K = X.K) (hu : X.A.units + 100 < cLine) : OpR X (compareOp .Eq) (rd2 g eqDT) := by
  have tup : ∀ {pins s σ H x v bs ρ F N S w d}, Inv X pins σ H s → RelV x v → Sim g bs ρ F N S H → Is g.K ρ F x w → viewD S w = some d → isTupD d = true → ∃ b its, v = Value.ref b ∧ s.heap.IsTuple b its := by
    intro pins s σ H x v bs ρ F N S w d I rx sm r hv ht
    cases d <;> simp only [isTupD] at ht <;> try cases ht
    rename_i ds
    have dp := view_dp sm r hv (by rw [PyData.plain]; exact ht)
    rw [hK] at dp
    obtain ⟨as, q⟩ := Dp.reads I _ x v dp rx
    cases q with
    | tuple h1 h2 h3 h4 => exact ⟨_, _, rfl, _, h1, h2, _, h3⟩
  intro pins s σ H x y v u Q I rx ry ⟨bs, ρ, F, N, S, wx, wy, s1, r1, r2, p⟩
  have q : ∀ {o : Option (W × Store)}, o = some (.bl false, S) → PostV g bs ρ F N Q o → Q (.bl false) H := fun e p => by subst e; exact p ρ F H (.bl false) (Grow.refl _ _) s1 (.dat (.bl false))
  unfold eqDT at p
  split at p
  · rename_i us d h1 h2
    split at p
    · rename_i ht
      obtain ⟨a, n, vs, e1, dh, _⟩ := dic_of s1 r1 h1
      subst e1
      cases rx
      obtain ⟨dd, es, ep, sl, hl⟩ := dicH_obj I.hok dh
      obtain ⟨b, its, rfl, hb⟩ := tup I ry s1 r2 h2 ht
      exact rc_dic_tuple hl hb (by omega) X.prog X.w _ _ ⟨.bl false, H, I, rfl, q rfl p⟩
    · exact p.elim
  · split at p
    · rename_i d us h1 h2
      split at p
      · rename_i ht
        obtain ⟨a, n, vs, e1, dh, _⟩ := dic_of s1 r2 h2
        subst e1
        cases ry
        obtain ⟨dd, es, ep, sl, hl⟩ := dicH_obj I.hok dh
        obtain ⟨b, its, rfl, hb⟩ := tup I rx s1 r1 h1 ht
        exact rc_tuple_dic hl hb (by omega) X.prog X.w _ _ ⟨.bl false, H, I, rfl, q rfl p⟩
      · exact p.elim
    · exact p.elim
end Rf
namespace Rf
open PySem PySem.Spec L2 PyProof.Rows
/-- ==, also of a dict and a tuple -/
def eqAF : Op2 := fun bs x y S => match eqF false bs x y S with
  | some r => some r
  | none => eqDT bs x y S
theorem ro_eqA {X : Cx} {g : Gx} (hK : g.K = X.K) (hu : X.A.units + 100 < cLine) : OpR X (compareOp .Eq) (rd2 g eqAF) := op_orElse (ro_eq hK hu) (ro_eqDT hK hu)
end Rf

namespace PySem
namespace ExInvalidNumber
open PySem.W PySem.Calls PyProof.Rows PySem.HandSPX
/-! ### the text of __init__ -/
def iA (p1 p2 : Pos) : Arguments := { posonlyargs := [], args := [{ arg := "self", annotation := none, pos := p1 }, { arg := "given", annotation := none, pos := p2 }], vararg := none, kwonlyargs := [], kw_defaults := [], kwarg := none, defaults := [] }
def iB (q1 q2 q3 q4 : Pos) : List Stmt := [.Assign [.Attribute (.Name "self" q1) "given" q2] (.Name "given" q3) q4]
def iS : Scope := { kind := .function, names := [(PySem.Str.ofString "self", .local), (PySem.Str.ofString "given", .local)], isGenerator := false, isCoroutine := false, more := [] }
/-- what the written part says of Low, at C, and of its __init__, at fI -/
structure Txt (K : Frag) (mg : Str → Option Value) (C fI : Addr) : Prop where
  gC : mg "InvalidNumber" = some (.ref C)
  cls : ∃ nm q N bs bm sn sub ab col dd k0 k1 k2 k3 k5, K.lookup C = some (excClassObj nm q C N bs bm true sn sub ab col dd k0 k1 k2 k3 k5 "IndexError.__new__") ∧ (∀ Y : String, bm.contains (.type Y) = ([.type "IndexError", .type "LookupError", .type "Exception", .type "BaseException", .type "object"] : List Value).contains (.type Y)) ∧ PySem.RfX.MroOk bm
  sa : findIn K (.ref C) "__setattr__" = some (some (.builtin "object.__setattr__"))
  ga : findIn K (.ref C) "__getattribute__" = some (some (.builtin "BaseException.__getattribute__"))
  gg : findIn K (.ref C) "__getattr__" = some none
  noN : findIn K (.ref C) "given" = some none
  iC : findIn K (.ref C) "__init__" = some (some (.ref fI))
  tC : typeIn K (.ref fI) = some (.type "function")
  kC : keepIn K (.ref C) = true
  exC : subIn K (.ref C) (.type "BaseException") = some true
  tyC : typeIn K (.ref C) = some (.type "type")
  hdC : hasDictIn K C = true
  te : exmOne K (.ref C) (.ref C) = some true
  fn : ∃ (oc : Value) (od : Option Addr) (doc pm : Value) (an : Option Addr) (cdv ct : Value) (osl : Array (Option Value)) (p1 p2 q1 q2 q3 q4 : Pos),
    K.lookup fI = some ⟨oc, od, .func (fnOf "__init__" "InvalidNumber.__init__" (iA p1 p2) (iB q1 q2 q3 q4) iS .none .none doc pm an cdv ct), osl⟩ ∧ codeIn K cdv "InvalidNumber.__init__" = true
theorem one_size (v : Value) : [v].length ≤ sizeLine := by
  rw [sizeLine_eq]
  exact (by decide : 1 ≤ 16777216)
theorem kept_but {K : Frag} {h h' : Heap} {x : Addr} (X : K.In h) (hx : K.lookup x = none) (k : ∀ b o, b ≠ x → h.get? b = some o → h'.get? b = some o) : K.In h' := fun a o e =>
  k a o (fun z => by rw [z, hx] at e; cases e) (X a o e)
theorem ldC {M : Model} {s : Shared} {name : Str} {scope : Scope} {L a : Addr} {cd : Value} {m : Str → Option Value} {x : Str} {pos : Pos} {v : Value} {Q : Value → Shared → Prop} {A : Around} {E : Value → Shared → Prop} (hn : s.heap.Ns L m) (hv : m x = some v) (h : Q v s)
    (hk : scope.kind = .function := by rfl) (hl : (envOfC name scope L a cd).kindOf x = some .local := by rfl) (hd : (x == ("__debug__" : Str)) = false := by decide) :
    wpAny M A (eval (.Name x pos) (envOfC name scope L a cd)) Q E s := wpAny_Name (wpAny_loadName_local hk hl hn hv h) hd
/-- what __init__ leaves of a fresh exception at x -/
structure InitEnd (h h' : Heap) (x C dx t1 : Addr) (v : Value) : Prop where
  keep : ∀ b o, b ≠ x → h.get? b = some o → h'.get? b = some o
  obj : h'.get? x = some { cls := .ref C, dict := some dx, data := .fields #[.ref t1, .none, .none, .none, .bool false, .none] }
  dbig : h.objs.size ≤ dx
  dne : dx ≠ x
  ns : h'.Ns1 dx (fun y => if y = "given" then some v else none)
/-- a made Low -/
structure OwnMade (h h' : Heap) (e C d : Addr) (v : Value) : Prop where
  keep : ∀ b o, h.get? b = some o → h'.get? b = some o
  new : h.objs.size ≤ e
  obj : ∃ oe vs, h'.get? e = some oe ∧ oe.cls = .ref C ∧ oe.dict = some d ∧ oe.data = .fields vs ∧ vs[1]? = some .none
  dbig : h.objs.size ≤ d
  dne : d ≠ e
  ns : h'.Ns1 d (fun y => if y = "given" then some v else none)
section
variable {prog : Program} {w : World} {A : Around} {E : Value → Shared → Prop} {R : Result → Shared → Prop} {s : Shared} {K : Frag} {mg : Str → Option Value} {C fI : Addr}
theorem low_init (T : Txt K mg C fI) {x t0 : Addr} {v : Value} (X : K.In s.heap) (hlim : s.heap.NoLimit) (hx : s.heap.get? x = some (excO C t0)) (hnx : K.lookup x = none) (hroom : A.depth < recursionLimit)
    (hq : ∀ h' tk dx, InitEnd s.heap h' x C dx t0 v → R (.ok (.ret .none)) { s with heap := h', toks := tk }) :
    codeAny (model prog w) A (.call (.ref fI) ⟨[.ref x, v], []⟩) R s := by
  obtain ⟨oc, od, doc, pm, an, cdv, ct, osl, p1, p2, q1, q2, q3, q4, ho, hcd⟩ := T.fn
  obtain ⟨nm, q, N, bs, bm, sn, sub, ab, col, dd, k0, k1, k2, k3, k5, hC, hct, hbm⟩ := T.cls
  have hcl : clsIn K C = some { name := nm, bases := bs, mro := .ref C :: bm, ns := N, qualname := q, hasDict := true, slotNames := sn, subclasses := sub, abstract := ab, collection := col, hasDel := false } := by unfold clsIn; rw [hC] <;> rfl
  refine Att.call_fn (binds := [("self", .ref x), ("given", v)]) X hlim ho hcd hroom (BindsTo.of_eq (by first | rfl | with_unfolding_all rfl)) (by first | rfl | decide | with_unfolding_all rfl) (fun s₁ IC => ?_) rfl rfl rfl
  obtain ⟨h₁, tk₁, rfl⟩ := IC.toInCall.same
  have k : ∀ b o, s.heap.get? b = some o → h₁.get? b = some o := IC.toInCall.keep
  have hn := IC.toInCall.ns
  have hxL : s.heap.objs.size ≠ x := Nat.ne_of_gt (Heap.lt_size hx)
  have X₁ : K.In h₁ := X.keeps k
  have hx₁ := k _ _ hx
  -- self.by = by
  show wpAny _ _ (execs _ _) _ _ _
  refine wpAny_execs_cons (plainObj_wpAny_Assign_Attribute ?_)
  refine ldC (v := v) hn (by first | rfl | with_unfolding_all rfl | kernel_rfl) (ldC (v := .ref x) hn (by first | rfl | with_unfolding_all rfl | kernel_rfl) ?_)
  refine set_plain X₁ (ox := excO C t0) (od := none) ⟨hx₁, rfl, rfl, trivial⟩ T.sa ?_
  refine PySem.RfX.fresh_store X₁ hx₁ hcl (hbm.ref C) rfl T.noN (fun h₃ tk₃ dx k₃ dn dne hx₃ hn₃ => ?_)
  show wpAny _ _ (execs _ _) _ _ _
  have z : s.heap.objs.size < h₁.objs.size := hn.lt
  exact wpAny_execs_nil (hq h₃ tk₃ dx ⟨fun b o hb e => k₃ b o hb (k b o e), hx₃, Nat.le_of_lt (Nat.lt_of_lt_of_le z dn), dne, hn₃⟩)
theorem low_made (T : Txt K mg C fI) {v : Value} (X : K.In s.heap) (hlim : s.heap.NoLimit) (hroom : A.depth + 1 < recursionLimit)
    (hq : ∀ h' tk e d, OwnMade s.heap h' e C d v → R (.ok (.ret (.ref e))) { s with heap := h', toks := tk }) :
    codeAny (model prog w) A (.call (.ref C) ⟨[v], []⟩) R s := by
  obtain ⟨nm, q, N, bs, bm, sn, sub, ab, col, dd, k0, k1, k2, k3, k5, hC, hct, hbm⟩ := T.cls
  obtain ⟨hp, g, dr, tk, os⟩ := s
  have k : ∀ b o, hp.get? b = some o → ((hp.push (kdv_tup [v])).push (excO C hp.objs.size)).get? b = some o := fun b o e => Heap.get?_push_of_some _ (Heap.get?_push_of_some _ e)
  have hget : ((hp.push (kdv_tup [v])).push (excO C hp.objs.size)).get? (hp.objs.size + 1) = some (excO C hp.objs.size) := by heap_get
  have hnx : K.lookup (hp.objs.size + 1) = none := by
    cases e : K.lookup (hp.objs.size + 1) with
    | none => rfl
    | some o =>
      have z : hp.get? (hp.objs.size + 1) = some o := X _ _ e
      exact absurd (Nat.lt_of_succ_lt (Heap.lt_size z)) (Nat.lt_irrefl _)
  refine call_own F.excBase_IndexError hct (X _ _ hC) (looks_findIn X T.iC) (fun self => bind_fn X self T.tC) (one_size v) ?_
  refine low_init (s := ⟨(hp.push (kdv_tup [v])).push (excO C hp.objs.size), g, dr, tk, os⟩) T (X.keeps k) (hlim.keeps k) hget hnx ?_ fun h' tk' dx ⟨k', hx, dn, dne, hns⟩ => ?_
  · show A.depth + 1 < recursionLimit
    exact hroom
  · have old : ∀ b o, hp.get? b = some o → h'.get? b = some o := fun b o e => k' b o (Nat.ne_of_lt (Nat.lt_succ_of_lt (Heap.lt_size e))) (k b o e)
    have z : hp.objs.size + 1 + 1 ≤ dx := by
      first
        | (simpa only [Heap.size_push] using dn)
        | exact dn
        | (have q := dn; rw [Heap.size_push, Heap.size_push] at q; exact q)
    exact ⟨rfl, hq h' tk' (hp.objs.size + 1) dx ⟨old, Nat.le_succ _, ⟨_, _, hx, rfl, rfl, rfl, rfl⟩, Nat.le_trans (Nat.le_trans (Nat.le_succ _) (Nat.le_succ _)) z, dne, hns⟩⟩
end
end ExInvalidNumber
end PySem
namespace L2
open PySem PySem.Spec PyProof.Rows
theorem relO_InvalidNumber {v : V} {v' : Value} (r : RelV v v') (f : Str) : RelO (List.lookup f [(("given" : Str), v)]) (if f = "given" then some v' else none) := by
  by_cases hw : f = "given"
  · subst hw
    rw [if_pos rfl]
    have q : List.lookup ("given" : Str) [(("given" : Str), v)] = some v := by simp [List.lookup]
    rw [q]
    exact r
  · rw [if_neg hw]
    have qw : (f == ("given" : Str)) = false := by simpa using hw
    have q2 : List.lookup f [(("given" : Str), v)] = none := by simp [List.lookup, qw]
    rw [q2]
    trivial
section
variable {X : Cx} {C fI : Addr}
/-- Low(e) -/
def tMk_InvalidNumber (C : Addr) (ta : TA) : St → Hp → XK → Prop := fun σ H Q => ta σ H fun vs H1 => ∃ v, vs = [v] ∧ ∀ d, H1 d = none → Q (.ref C) (some d) (upd H1 d (.xd [(("given" : Str), v)]))
theorem pmk_InvalidNumber {a : Expr} {ta : TA} {p pos : Pos} {k : Nat} (T : PySem.ExInvalidNumber.Txt X.K X.mg C fI) (hr : Room k X.A) (ha : PA X [a] ta) (hg : Gl X "InvalidNumber" := by rfl)
    (he : starEach (a :: []) X.env = (false, eval a X.env) :: starEach [] X.env := by rfl) (hpl : (backTo pos (starEach [] X.env)).any (·.1) = false := by rfl) :
    PMk X (.Call (.Name "InvalidNumber" p) [a] [] pos) (tMk_InvalidNumber C ta) := by
  intro pins s σ H Q I h
  refine wpAny_Call_Name_kw (ld_glob I hg T.gC ?_)
  refine PySem.W.callWith_K (h₀ := X.base) I.ok.mod.kin T.kC (thn (ha.run pos pins s σ H _ I h) fun us s1 hh => ?_) he hpl
  obtain ⟨vs, H1, I1, r1, v, ev, q1⟩ := hh
  subst ev
  refine ⟨I1.kIn, ?_⟩
  cases r1 with
  | cons rv rn =>
    rename_i v' us'
    cases rn
    show wpAny _ _ (call (.ref C) [v']) _ _ _
    have hlim := I1.nolimit
    obtain ⟨hp, g, dr, tk, os⟩ := s1
    refine wpAny_call (PySem.ExInvalidNumber.low_made T I1.kIn hlim (by have := hr.dp; omega) fun h' tk' e d M => ?_)
    show MkP X pins σ Q (.ref e) ⟨h', g, dr, tk', os⟩
    obtain ⟨oe, fv, hoe, hc, hd, hdat, h1⟩ := M.obj
    have hns := M.ns
    obtain ⟨G', g1, g2⟩ := restrict h' fun b => decide (b ≠ e)
    have gk : ∀ b, b ≠ e → G'.get? b = h'.get? b := fun b hb => g1 b (decide_eq_true hb)
    have ge : G'.get? e = none := g2 e (by simp)
    have old : ∀ b o, hp.get? b = some o → G'.get? b = some o := fun b o q => (gk b (Nat.ne_of_lt (Nat.lt_of_lt_of_le (Heap.lt_size q) M.new))).trans (M.keep b o q)
    have ob : ObjOk X.prog X.w (upd H1 d (.xd [(("given" : Str), v)])) G' d (.xd [(("given" : Str), v)]) :=
      ⟨_, hns.at (fun o q => (gk d M.dne).trans q), fun f => relO_InvalidNumber rv f⟩
    have J : Inv X pins σ (upd H1 d (.xd [(("given" : Str), v)])) ⟨G', g, dr, tk', os⟩ := I1.laid (t' := tk') old M.dbig ob
    refine ⟨e, oe, fv, ⟨G', g, dr, tk', os⟩, _, .ref C, some d, rfl, J, fun b o q => ?_, ge, hoe, ⟨hc, hd⟩, hdat, h1, ?_, rfl, I1.bare, raises_own T.exC T.tyC, q1 d (I1.hok.fresh M.dbig)⟩
    · by_cases hb : b = e
      · have q' : G'.get? b = some o := q
        rw [hb, ge] at q'; cases q'
      · exact (gk b hb).symm.trans q
    · rw [upd_ne (Ne.symm M.dne)]
      exact I1.hok.fresh M.new
/-- raise Low(e) -/
def tRaise_InvalidNumber (C : Addr) (W : WX) (ta : TA) : TS := fun _ σ H => tMk_InvalidNumber C ta σ H fun cls d H' => W cls d σ H'
theorem ps_raise_InvalidNumber {a : Expr} {ta : TA} {W : WX} {p pos pos2 : Pos} {k : Nat} (hc : X.calm = true) (T : PySem.ExInvalidNumber.Txt X.K X.mg C fI) (hr : Room k X.A) (tk : Takes X W) (ha : PA X [a] ta) (hg : Gl X "InvalidNumber" := by rfl)
    (he : starEach (a :: []) X.env = (false, eval a X.env) :: starEach [] X.env := by rfl) (hpl : (backTo pos (starEach [] X.env)).any (·.1) = false := by rfl) :
    PS X (.Raise (some (.Call (.Name "InvalidNumber" p) [a] [] pos)) none pos2) (tRaise_InvalidNumber C W ta) := ps_raise hc tk (pmk_InvalidNumber T hr ha hg he hpl)
/-- low.by, low the exception that the suite holds (at a; its class cls, its dict d) -/
def tBy_InvalidNumber (C : Addr) (a : Addr) (cls : Value) (d : Option Addr) (te : TE) : TE := fun σ H Q => te σ H fun x H1 => x = .ref a ∧ cls = .ref C ∧ ∃ (dd : Addr) (v : V), d = some dd ∧ H1 dd = some (.xd [(("given" : Str), v)]) ∧ Q v H1
theorem pe_by_InvalidNumber {a : Addr} {oe : Obj} {cls : Value} {d : Option Addr} {pn : List (Addr × Obj)} {e : Expr} {te : TE} {pos : Pos} (T : PySem.ExInvalidNumber.Txt X.K X.mg C fI) (hz : Zc cls d oe) (hf : ∃ vs, oe.data = .fields vs) (he : PE (X.suite a ((a, oe) :: pn)) e te)
    (hb : attributeBase e "given" X.env (eval e X.env) = eval e X.env := by rfl) :
    PE (X.suite a ((a, oe) :: pn)) (.Attribute e "given" pos) (tBy_InvalidNumber C a cls d te) := by
  refine ⟨fun pins s σ H Q I h => ?_⟩
  refine attr_of hb (thn (he.run pins s σ H _ I h) fun u s1 hh => ?_)
  obtain ⟨x, H1, I1, rx, ex, ec, dd, v, ed, ea, q⟩ := hh
  subst ex
  obtain rfl : u = Value.ref a := rx
  subst ec
  subst ed
  obtain ⟨ha, _⟩ := I1.pin (a, oe) (List.mem_append_left _ List.mem_cons_self)
  obtain ⟨vs, hd⟩ := hf
  have hx : ObjOk X.prog X.w H1 s1.heap dd (.xd [(("given" : Str), v)]) := I1.hok dd _ ea
  obtain ⟨mA, hns, hr⟩ := hx
  obtain ⟨od, ho, hl⟩ := lookIn_ns hns
  have l : List.lookup ("given" : Str) [(("given" : Str), v)] = some v := by simp [List.lookup]
  obtain ⟨u, hu, ru⟩ := RelO.some_of (v := v) (o := mA "given") (by rw [← l]; exact hr "given")
  have J : PySem.W.InstAt s1.heap a oe C (some od) := ⟨ha, hz.1, by unfold PySem.W.notCls; rw [hd] <;> rfl, by rw [hz.2]; exact ho⟩
  exact HandSPX.exc_get I1.kIn J T.ga T.gg T.exC (PySem.W.findObj_own T.hdC T.noN rfl (by rw [hl, hu])) (handed_of ru) ⟨v, H1, I1.tok _, ru, q⟩
end
end L2

namespace Rf
open PySem L2

/-! ### what an outcome must be: weakest preconditions over readings -/
abbrev EK := Nat → List W → Store → Prop
abbrev NoE : EK := fun _ _ _ => False
def Out.wp {α : Type} (o : Out α) (Q : α → Store → Prop) (E : EK) : Prop := match o with
  | .ok a S => Q a S
  | .ex c ws S => E c ws S
  | .stuck => False
def SO.wp (o : SO) (N : Env → Store → Prop) (R : W → Store → Prop) (B C : Env → Store → Prop) (E : Nat → List W → Env → Store → Prop) : Prop := match o with
  | .nx e S => N e S
  | .rt w S => R w S
  | .bk e S => B e S
  | .ct e S => C e S
  | .ex c ws e S => E c ws e S
  | .stuck => False
def wpo (o : Option (W × Store)) (Q : W → Store → Prop) : Prop := match o with
  | some (w, S) => Q w S
  | none => False
theorem Out.wp.mono {α : Type} {o : Out α} {Q Q' : α → Store → Prop} {E E' : EK} (h : o.wp Q E) (i : ∀ a S, Q a S → Q' a S) (j : ∀ c ws S, E c ws S → E' c ws S) : o.wp Q' E' := by
  cases o with
  | ok a S => exact i _ _ h
  | ex c ws S => exact j _ _ _ h
  | stuck => exact h
theorem Out.wp.imp {α : Type} {o : Out α} {Q Q' : α → Store → Prop} {E : EK} (h : o.wp Q E) (i : ∀ a S, Q a S → Q' a S) : o.wp Q' E := h.mono i fun _ _ _ z => z
theorem Out.wp.use {α : Type} {o : Out α} {Q Q' : α → Store → Prop} {E : EK} (h : o.wp Q NoE) (i : ∀ a S, Q a S → Q' a S) : o.wp Q' E := h.mono i fun _ _ _ z => z.elim
theorem wp_eq {α : Type} {o : Out α} {a : α} {S : Store} {Q : α → Store → Prop} {E : EK} (h : o = .ok a S) (q : Q a S) : o.wp Q E := by rw [h]; exact q
theorem eq_of_wp {α : Type} {o : Out α} {a : α} {S : Store} (h : o.wp (fun b S' => b = a ∧ S' = S) NoE) : o = .ok a S := by
  cases o with
  | ok b T => obtain ⟨rfl, rfl⟩ := h; rfl
  | ex c ws S => exact h.elim
  | stuck => exact h.elim
theorem ok_of_wp {α : Type} {o : Out α} {Q : α → Store → Prop} (h : o.wp Q NoE) : ∃ a S, o = .ok a S ∧ Q a S := by
  cases o with
  | ok b T => exact ⟨b, T, rfl, h⟩
  | ex c ws S => exact h.elim
  | stuck => exact h.elim
theorem bind_wp {α β : Type} {o : Out α} {f : α → Store → Out β} {Q : β → Store → Prop} {E : EK} (h : o.wp (fun a S => (f a S).wp Q E) E) : (o.bind f).wp Q E := by
  cases o with
  | ok a S => exact h
  | ex c ws S => exact h
  | stuck => exact h
theorem so_wp {α : Type} {o : Out α} {env : Env} {f : α → Store → SO} {N R B C E} (h : o.wp (fun a S => (f a S).wp N R B C E) fun c ws S => E c ws env S) : (o.so env f).wp N R B C E := by
  cases o with
  | ok a S => exact h
  | ex c ws S => exact h
  | stuck => exact h
theorem then_wp {o : SO} {f : Env → Store → SO} {N R B C E} (h : o.wp (fun e S => (f e S).wp N R B C E) R B C E) : (o.andThen f).wp N R B C E := by
  cases o <;> exact h
theorem SO.wp.mono {o : SO} {N R B C E N' R' B' C' E'} (h : o.wp N R B C E) (n : ∀ e S, N e S → N' e S) (r : ∀ w S, R w S → R' w S) (b : ∀ e S, B e S → B' e S) (c : ∀ e S, C e S → C' e S) (x : ∀ k ws e S, E k ws e S → E' k ws e S) : o.wp N' R' B' C' E' := by
  cases o with
  | nx e S => exact n _ _ h
  | rt e S => exact r _ _ h
  | bk e S => exact b _ _ h
  | ct e S => exact c _ _ h
  | ex k ws e S => exact x _ _ _ _ h
  | stuck => exact h

/-! ### expressions -/
section
variable {α : Type} {bs : List Nat} {env : Env} {S : Store} {E : EK} {m ma mb mc : M W} {ms : M (List W)} {i : Nat} {t u : M Bool}
theorem wp_var {w : W} {Q : W → Store → Prop} (h : env[i]? = some (some w)) (q : Q w.weak S) : (mVar i bs env S).wp Q E := by unfold mVar; rw [h]; exact q
theorem wp_varD {d : PyData} {Q : W → Store → Prop} (h : env[i]? = some (some (.dat d))) (q : Q (.dat d) S) : (mVar i bs env S).wp Q E := wp_var h q
theorem wp_varL {n : Nat} {Q : W → Store → Prop} (h : env[i]? = some (some (.loc n))) (q : Q (.loc n) S) : (mVar i bs env S).wp Q E := wp_var h q
theorem wp_varT {ws : List W} {Q : W → Store → Prop} (h : env[i]? = some (some (.tw ws))) (q : Q (.tw ws) S) : (mVar i bs env S).wp Q E := wp_var h q
theorem wp_varLw {ws : List W} {Q : W → Store → Prop} (h : env[i]? = some (some (.lw ws))) (q : Q (.lw ws) S) : (mVar i bs env S).wp Q E := wp_var h q
theorem wp_varKt {ds : List PyData} {Q : W → Store → Prop} (h : env[i]? = some (some (.kt ds))) (q : Q (.tw (ds.map .dat)) S) : (mVar i bs env S).wp Q E := wp_var h q
theorem wp_varK {w : W} {Q : W → Store → Prop} (h : env[i]? = some (some w)) (q : Q w S) : (mVarK i bs env S).wp Q E := by unfold mVarK; rw [h]; exact q
theorem wp_con {d : PyData} {Q : W → Store → Prop} (q : Q (.dat d) S) : (mCon d bs env S).wp Q E := q
theorem wp_bin {f : Op2} {Q : W → Store → Prop} (h : (ma bs env S).wp (fun x S1 => (mb bs env S1).wp (fun y S2 => wpo (f bs x y S2) Q) E) E) : (mBin f ma mb bs env S).wp Q E :=
  bind_wp (h.imp fun x S1 h1 => bind_wp (h1.imp fun y S2 h2 => by
    show Out.wp (match f bs x y S2 with | some (w, S3) => Out.ok w S3 | none => .stuck) Q E
    unfold wpo at h2
    split at h2
    · exact h2
    · exact h2.elim))
/-- a truth -/
def isB (w : W) (Q : Bool → Prop) : Prop := match w with
  | .dat (.bool b) => Q b
  | _ => False
theorem isB_mk {b : Bool} {Q : Bool → Prop} (q : Q b) : isB (.dat (.bool b)) Q := q
theorem wp_B {Q : Bool → Store → Prop} (h : (m bs env S).wp (fun w S1 => isB w fun b => Q b S1) E) : (mB m bs env S).wp Q E := bind_wp (h.imp fun w S1 h1 => by
  unfold isB at h1
  split at h1
  · exact h1
  · exact h1.elim)
theorem wp_not {Q : Bool → Store → Prop} (h : (t bs env S).wp (fun b S1 => Q (!b) S1) E) : (mNot t bs env S).wp Q E := bind_wp h
theorem wp_if {n1 n2 : M α} {Q : α → Store → Prop} (h : (t bs env S).wp (fun b S1 => (b = true → (n1 bs env S1).wp Q E) ∧ (b = false → (n2 bs env S1).wp Q E)) E) : (mIf t n1 n2 bs env S).wp Q E := bind_wp (h.imp fun b S1 h1 => by
  show Out.wp (if b = true then _ else _) Q E
  cases b with
  | true => exact h1.1 rfl
  | false => exact h1.2 rfl)
theorem wp_okF {a : α} {Q : α → Store → Prop} (q : Q a S) : ((fun _ _ S => Out.ok a S : M α) bs env S).wp Q E := q
theorem wp_ok {a : α} {Q : α → Store → Prop} (q : Q a S) : (Out.ok a S).wp Q E := q
theorem wp_yes {Q : Bool → Store → Prop} (q : Q true S) : (mYes bs env S).wp Q E := q
theorem wp_tru {Q : Bool → Store → Prop} (h : (m bs env S).wp (fun w S1 => ∃ b, truW S1 w = some b ∧ Q b S1) E) : (mTru m bs env S).wp Q E := bind_wp (h.imp fun w S1 ⟨b, e, q⟩ => by
  show Out.wp (match truW S1 w with | some b => Out.ok b S1 | none => .stuck) Q E
  rw [e]; exact q)
theorem wp_andV {Q : W → Store → Prop} (h : (ma bs env S).wp (fun w S1 => ∃ b, truW S1 w = some b ∧ (b = true → (mb bs env S1).wp Q E) ∧ (b = false → Q w S1)) E) : (mAndV ma mb bs env S).wp Q E := bind_wp (h.imp fun w S1 ⟨b, e, q⟩ => by
  show Out.wp (match truW S1 w with | some b => if b = true then mb bs env S1 else Out.ok w S1 | none => .stuck) Q E
  rw [e]
  cases b with
  | true => exact q.1 rfl
  | false => exact q.2 rfl)
theorem wp_orV {Q : W → Store → Prop} (h : (ma bs env S).wp (fun w S1 => ∃ b, truW S1 w = some b ∧ (b = true → Q w S1) ∧ (b = false → (mb bs env S1).wp Q E)) E) : (mOrV ma mb bs env S).wp Q E := bind_wp (h.imp fun w S1 ⟨b, e, q⟩ => by
  show Out.wp (match truW S1 w with | some b => if b = true then Out.ok w S1 else mb bs env S1 | none => .stuck) Q E
  rw [e]
  cases b with
  | true => exact q.1 rfl
  | false => exact q.2 rfl)
theorem wp_notV {Q : W → Store → Prop} (h : (ma bs env S).wp (fun w S1 => ∃ b, truW S1 w = some b ∧ Q (.bl (!b)) S1) E) : (mNotV ma bs env S).wp Q E := bind_wp (h.imp fun w S1 ⟨b, e, q⟩ => by
  show Out.wp (match truW S1 w with | some b => Out.ok (W.bl (!b)) S1 | none => .stuck) Q E
  rw [e]; exact q)
theorem tru_bl {b : Bool} {S : Store} : truW S (.dat (.bool b)) = some b := rfl
theorem wp_neg {Q : W → Store → Prop} (h : (ma bs env S).wp (fun w S1 => ∃ i, w = .dat (.int i) ∧ Q (.dat (.int (-i))) S1) E) : (mNeg ma bs env S).wp Q E := bind_wp (h.imp fun w S1 ⟨i, e, q⟩ => by subst e; exact q)
theorem wp_chain {f f' : Op2} {Q : W → Store → Prop} (h : (ma bs env S).wp (fun x S1 => (mb bs env S1).wp (fun y S2 => wpo (f bs x y S2) fun w S3 => isB w fun b => (b = true → (mc bs env S3).wp (fun z S4 => wpo (f' bs y z S4) Q) E) ∧ (b = false → Q (.dat (.bool false)) S3)) E) E) : (mChain f f' ma mb mc bs env S).wp Q E :=
  bind_wp (h.imp fun x S1 h1 => bind_wp (h1.imp fun y S2 h2 => by
    show Out.wp (match f bs x y S2 with | some (.dat (.bool b), S3) => _ | _ => .stuck) Q E
    unfold wpo at h2
    split at h2
    · rename_i w S3 e
      unfold isB at h2
      split at h2
      · rename_i b
        rw [e]
        cases b with
        | true =>
          refine bind_wp ((h2.1 rfl).imp fun z S4 h3 => ?_)
          show Out.wp (match f' bs y z S4 with | some (w, S5) => Out.ok w S5 | none => .stuck) Q E
          unfold wpo at h3
          split at h3
          · exact h3
          · exact h3.elim
        | false => exact h2.2 rfl
      · exact h2.elim
    · exact h2.elim))
theorem wp_nil {Q : List W → Store → Prop} (q : Q [] S) : (mNil bs env S).wp Q E := q
theorem wp_cons {Q : List W → Store → Prop} (h : (m bs env S).wp (fun w S1 => (ms bs env S1).wp (fun ws S2 => Q (w :: ws) S2) E) E) : (mCons m ms bs env S).wp Q E := bind_wp (h.imp fun w S1 h1 => bind_wp h1)
/-- what follows a display, a comprehension -/
def TP (Q : W → Store → Prop) (ws : List W) (S : Store) : Prop := ws.length ≤ 100000 ∧ Q (mkTup ws) S
def LP (k : Bool) (Q : W → Store → Prop) (ws : List W) (S : Store) : Prop := ws.length ≤ 100000 ∧ Q (newL k ws S).1 (newL k ws S).2
def NL (k : Bool) (Q : W → Store → Prop) (ws : List W) (S : Store) : Prop := Q (newL k ws S).1 (newL k ws S).2
theorem wp_tup {Q : W → Store → Prop} (h : (ms bs env S).wp (fun ws S1 => TP Q ws S1) E) : (mTup ms bs env S).wp Q E := bind_wp (h.imp fun ws S1 ⟨hl, q⟩ => by
  show Out.wp (if ws.length ≤ 100000 then Out.ok (mkTup ws) S1 else .stuck) Q E
  rw [if_pos hl]; exact q)
theorem wp_lst {k : Bool} {Q : W → Store → Prop} (h : (ms bs env S).wp (fun ws S1 => LP k Q ws S1) E) : (mLst k ms bs env S).wp Q E := bind_wp (h.imp fun ws S1 ⟨hl, q⟩ => by
  show Out.wp (if ws.length ≤ 100000 then Out.ok (newL k ws S1).1 (newL k ws S1).2 else .stuck) Q E
  rw [if_pos hl]; exact q)
theorem tp_dat {ws : List W} {ds : List PyData} {Q : W → Store → Prop} (hl : Nat.ble ws.length 100000 = true) (h : allDat ws = some ds) (q : Q (.dat (.tuple ds)) S) : TP Q ws S := by
  refine ⟨Nat.le_of_ble_eq_true hl, ?_⟩
  unfold mkTup; rw [h]; exact q
theorem lp_dat {ws : List W} {ds : List PyData} {Q : W → Store → Prop} (hl : Nat.ble ws.length 100000 = true) (h : allDat ws = some ds) (q : Q (.dat (.list ds)) S) : LP false Q ws S := by
  refine ⟨Nat.le_of_ble_eq_true hl, ?_⟩
  show Q (mkLst ws) S
  unfold mkLst; rw [h]; exact q
theorem lp_cell {ws : List W} {Q : W → Store → Prop} (hl : Nat.ble ws.length 100000 = true) (q : Q (.loc S.length) (S ++ [.lst ws])) : LP true Q ws S := ⟨Nat.le_of_ble_eq_true hl, q⟩
theorem wp_CB {f : OpN} {Q : W → Store → Prop} (h : (ms bs env S).wp (fun ws S1 => wpo (f bs ws S1) Q) E) : (mCB f ms bs env S).wp Q E := bind_wp (h.imp fun ws S1 h1 => by
  show Out.wp (match f bs ws S1 with | some (w, S2) => Out.ok w S2 | none => .stuck) Q E
  unfold wpo at h1
  split at h1
  · exact h1
  · exact h1.elim)
theorem wp_call {f : FnT} {Q : W → Store → Prop} (h : (ms bs env S).wp (fun ws S1 => (f bs ws S1).wp Q E) E) : (mCall f ms bs env S).wp Q E := bind_wp h
theorem wp_mt {T : MTy} {f : OpM} {mo : M W} {Q : W → Store → Prop} (h : (mo bs env S).wp (fun w S1 => wTy T w S1 = true ∧ (ms bs env S1).wp (fun ws S2 => wpo (f bs w ws S2) Q) E) E) : (mMt T f mo ms bs env S).wp Q E := bind_wp (h.imp fun w S1 ⟨ht, h1⟩ => by
  show Out.wp (if wTy T w S1 = true then _ else _) Q E
  rw [if_pos ht]
  refine bind_wp (h1.imp fun ws S2 h2 => ?_)
  show Out.wp (match f bs w ws S2 with | some (r, S3) => Out.ok r S3 | none => .stuck) Q E
  unfold wpo at h2
  split at h2
  · exact h2
  · exact h2.elim)
theorem wp_mtK {f : OpM} {mo : M W} {Q : W → Store → Prop} (h : (mo bs env S).wp (fun w S1 => isKt w = true ∧ (ms bs env S1).wp (fun ws S2 => wpo (f bs w ws S2) Q) E) E) : (mMtK f mo ms bs env S).wp Q E := bind_wp (h.imp fun w S1 ⟨ht, h1⟩ => by
  show Out.wp (if isKt w = true then _ else _) Q E
  rw [if_pos ht]
  refine bind_wp (h1.imp fun ws S2 h2 => ?_)
  show Out.wp (match f bs w ws S2 with | some (r, S3) => Out.ok r S3 | none => .stuck) Q E
  unfold wpo at h2
  split at h2
  · exact h2
  · exact h2.elim)
theorem wp_isi {T : String} {Q : W → Store → Prop} (h : (m bs env S).wp (fun w S1 => ∃ u, isiW T S1 w = some u ∧ Q u S1) E) : (mIsi T m bs env S).wp Q E := bind_wp (h.imp fun w S1 ⟨u, e, q⟩ => by
  show Out.wp (match isiW T S1 w with | some u => Out.ok u S1 | none => .stuck) Q E
  rw [e]; exact q)
theorem wp_noPart {Q : Option Int → Store → Prop} (q : Q none S) : (mNoPart bs env S).wp Q E := q
theorem wp_part {Q : Option Int → Store → Prop} (h : (m bs env S).wp (fun w S1 => ∃ i, w = .dat (.int i) ∧ Q (some i) S1) E) : (mPart m bs env S).wp Q E := bind_wp (h.imp fun w S1 ⟨i, e, q⟩ => by subst e; exact q)
theorem wp_sl {f : OpSl} {ml mh : M (Option Int)} {Q : W → Store → Prop} (h : (ma bs env S).wp (fun w S1 => (ml bs env S1).wp (fun l S2 => (mh bs env S2).wp (fun h S3 => wpo (f w l h S3) Q) E) E) E) : (mSl f ma ml mh bs env S).wp Q E :=
  bind_wp (h.imp fun w S1 h1 => bind_wp (h1.imp fun l S2 h2 => bind_wp (h2.imp fun h S3 h3 => by
    show Out.wp (match f w l h S3 with | some (r, S4) => Out.ok r S4 | none => .stuck) Q E
    unfold wpo at h3
    split at h3
    · exact h3
    · exact h3.elim)))
theorem wp_dic0t {Q : W → Store → Prop} (q : Q (.loc S.length) (S ++ [.dic []])) : (mDic0 true bs env S).wp Q E := q
theorem wp_dic0f {Q : W → Store → Prop} (q : Q (.dat (.dict [])) S) : (mDic0 false bs env S).wp Q E := q
theorem wp_it {Q : Iter → Store → Prop} (h : (m bs env S).wp (fun w S1 => ∃ it, iterA S1 w = some it ∧ Q it S1) E) : (mIt m bs env S).wp Q E := bind_wp (h.imp fun w S1 ⟨it, e, q⟩ => by
  show Out.wp (match iterA S1 w with | some it => Out.ok it S1 | none => .stuck) Q E
  rw [e]; exact q)
theorem wp_rng1 {Q : Iter → Store → Prop} (h : (ms bs env S).wp (fun ws S1 => ∃ n, ws = [.dat (.int n)] ∧ (n < 4611686018427387904 ∧ -4611686018427387904 ≤ n) ∧ Q (.items (rangeW 0 n)) S1) E) : (mRng1 ms bs env S).wp Q E := bind_wp (h.imp fun ws S1 ⟨n, e, hl, q⟩ => by
  subst e
  show Out.wp (@ite _ (n < 4611686018427387904 ∧ -4611686018427387904 ≤ n) (rdec n) (Out.ok (Iter.items (rangeW 0 n)) S1) .stuck) Q E
  rw [if_pos hl]; exact q)
theorem wp_rng2 {Q : Iter → Store → Prop} (h : (ms bs env S).wp (fun ws S1 => ∃ i n, ws = [.dat (.int i), .dat (.int n)] ∧ ((n < 4611686018427387904 ∧ -4611686018427387904 ≤ n) ∧ (i < 4611686018427387904 ∧ -4611686018427387904 ≤ i)) ∧ Q (.items (rangeW i n)) S1) E) : (mRng2 ms bs env S).wp Q E := bind_wp (h.imp fun ws S1 ⟨i, n, e, hl, q⟩ => by
  subst e
  show Out.wp (@ite _ ((n < 4611686018427387904 ∧ -4611686018427387904 ≤ n) ∧ (i < 4611686018427387904 ∧ -4611686018427387904 ≤ i)) (@instDecidableAnd _ _ (rdec n) (rdec i)) (Out.ok (Iter.items (rangeW i n)) S1) .stuck) Q E
  rw [if_pos hl]; exact q)
end
/-! ### targets, statements -/
section
variable {bs : List Nat} {env : Env} {S : Store} {m : M W} {ms : M (List W)} {i j : Nat} {t : M Bool} {a b : MS} {N : Env → Store → Prop} {R : W → Store → Prop} {B C : Env → Store → Prop} {E : Nat → List W → Env → Store → Prop} {E' : EK} {Q : Env → Store → Prop}
theorem wp_name {w : W} (q : Q (env.set i (some w)) S) : (tName i w bs env S).wp Q E' := q
theorem wp_tNil (q : Q env S) : (tNil [] bs env S).wp Q E' := q
theorem wp_tCons {t : TM} {u : TMs} {w : W} {r : List W} (h : (t w bs env S).wp (fun e S1 => (u r bs e S1).wp Q E') E') : (tCons t u (w :: r) bs env S).wp Q E' := bind_wp h
theorem wp_tTup {n : Nat} {t : TMs} {w : W} {ws : List W} (h : tupOf w = some ws) (hl : ws.length = n) (q : (t ws bs env S).wp Q E') : (tTup n t w bs env S).wp Q E' := by
  unfold tTup
  rw [h]
  show Out.wp (if ws.length = n then t ws bs env S else .stuck) Q E'
  rw [if_pos hl]; exact q
theorem wp_tSub {mo mi : M W} {f : OpSet} {w : W} (h : (mo bs env S).wp (fun o S1 => (mi bs env S1).wp (fun x S2 => ∃ S3, f bs o x w S2 = some S3 ∧ Q env S3) E') E') : (tSub mo mi f w bs env S).wp Q E' := bind_wp (h.imp fun o S1 h1 => bind_wp (h1.imp fun x S2 ⟨S3, e, q⟩ => by
  show Out.wp (match f bs o x w S2 with | some S3 => Out.ok env S3 | none => .stuck) Q E'
  rw [e]; exact q))
theorem wp_seq (h : (a bs env S).wp (fun e S1 => (b bs e S1).wp N R B C E) R B C E) : (sSeq a b bs env S).wp N R B C E := then_wp h
theorem wp_asg {tg : TM} (h : (m bs env S).wp (fun w S1 => (tg w bs env S1).wp (fun e S2 => N e S2) fun c ws S2 => E c ws env S2) fun c ws S1 => E c ws env S1) : (sAsg m tg bs env S).wp N R B C E := so_wp (h.imp fun w S1 h1 => so_wp h1)
theorem wp_ret (h : (m bs env S).wp R fun c ws S1 => E c ws env S1) : (sRet m bs env S).wp N R B C E := so_wp h
theorem wp_retN (h : R (.dat .none) S) : (sRetN bs env S).wp N R B C E := h
theorem wp_drop (h : (m bs env S).wp (fun _ S1 => N env S1) fun c ws S1 => E c ws env S1) : (sDrop m bs env S).wp N R B C E := so_wp h
theorem wp_sNil (h : N env S) : (sNil bs env S).wp N R B C E := h
theorem wp_brk (h : B env S) : (sBrk bs env S).wp N R B C E := h
theorem wp_cnt (h : C env S) : (sCnt bs env S).wp N R B C E := h
theorem wp_sIf (h : (t bs env S).wp (fun v S1 => (v = true → (a bs env S1).wp N R B C E) ∧ (v = false → (b bs env S1).wp N R B C E)) fun c ws S1 => E c ws env S1) : (sIf t a b bs env S).wp N R B C E := so_wp (h.imp fun v S1 h1 => by
  show SO.wp (if v = true then _ else _) N R B C E
  cases v with
  | true => exact h1.1 rfl
  | false => exact h1.2 rfl)
theorem wp_par (h : (ms bs env S).wp (fun ws S1 => ∃ w u, ws = [w, u] ∧ N ((env.set i (some w)).set j (some u)) S1) fun c ws S1 => E c ws env S1) : (sPar i j ms bs env S).wp N R B C E := so_wp (h.imp fun ws S1 ⟨w, u, e, q⟩ => by subst e; exact q)
theorem wp_par3 {l : Nat} (h : (ms bs env S).wp (fun ws S1 => ∃ w u z, ws = [w, u, z] ∧ N (((env.set i (some w)).set j (some u)).set l (some z)) S1) fun c ws S1 => E c ws env S1) : (sPar3 i j l ms bs env S).wp N R B C E := so_wp (h.imp fun ws S1 ⟨w, u, z, e, q⟩ => by subst e; exact q)
theorem wp_aug {f : Op2} {x : W} (hx : env[i]? = some (some x)) (h : (m bs env S).wp (fun y S1 => wpo (f bs x y S1) fun z S2 => N (env.set i (some z)) S2) fun c ws S1 => E c ws env S1) : (sAug i f m bs env S).wp N R B C E := by
  unfold sAug
  rw [hx]
  refine so_wp (h.imp fun y S1 h1 => ?_)
  show SO.wp (match f bs x y S1 with | some (z, S2) => SO.nx (env.set i (some z)) S2 | none => .stuck) N R B C E
  unfold wpo at h1
  split at h1
  · exact h1
  · exact h1.elim
/-! ### defs -/
/-- behind a def's return: its frame is popped -/
def RT (b : Nat) (Q : W → Store → Prop) (w : W) (S : Store) : Prop := if w.und b = true then Q w (S.take b) else Q w S
def EX (b : Nat) (E : EK) (c : Nat) (ws : List W) (S : Store) : Prop := if W.undAll b ws = true then E c ws (S.take b) else E c ws S
theorem wp_fn {n p : Nat} {m : MS} {ws : List W} {Q : W → Store → Prop} {E : EK} (hl : ws.length = p)
    (h : (m (S.length :: bs) (startE n ws) S).wp (fun _ S1 => Q (.dat .none) (S1.take S.length)) (RT S.length Q) (fun _ _ => False) (fun _ _ => False) fun c ws _ S1 => EX S.length E c ws S1) : (fnM n p m bs ws S).wp Q E := by
  unfold fnM
  rw [if_pos hl]
  generalize m (S.length :: bs) (startE n ws) S = o at h
  cases o with
  | nx e S1 => exact h
  | rt w S1 =>
    have h' : if w.und S.length = true then Q w (S1.take S.length) else Q w S1 := h
    show Out.wp (if w.und S.length = true then Out.ok w (S1.take S.length) else Out.ok w S1) Q E
    split <;> rename_i hw
    · rw [if_pos hw] at h'; exact h'
    · rw [if_neg hw] at h'; exact h'
  | bk e S1 => exact h.elim
  | ct e S1 => exact h.elim
  | ex c ws e S1 =>
    have h' : if W.undAll S.length ws = true then E c ws (S1.take S.length) else E c ws S1 := h
    show Out.wp (if W.undAll S.length ws = true then Out.ex c ws (S1.take S.length) else Out.ex c ws S1) Q E
    split <;> rename_i hw
    · rw [if_pos hw] at h'; exact h'
    · rw [if_neg hw] at h'; exact h'
  | stuck => exact h.elim
theorem rt_same {Q : W → Store → Prop} {d : PyData} (q : Q (.dat d) S) : RT S.length Q (.dat d) S := by
  show if true = true then Q (.dat d) (S.take S.length) else Q (.dat d) S
  rw [if_pos rfl, List.take_length]; exact q
theorem rt_dat {n : Nat} {Q : W → Store → Prop} {d : PyData} (q : Q (.dat d) (S.take n)) : RT n Q (.dat d) S := by
  show if true = true then Q (.dat d) (S.take n) else Q (.dat d) S
  rw [if_pos rfl]; exact q
theorem rt_kt {n : Nat} {Q : W → Store → Prop} {ds : List PyData} (q : Q (.kt ds) (S.take n)) : RT n Q (.kt ds) S := by
  show if true = true then Q (.kt ds) (S.take n) else Q (.kt ds) S
  rw [if_pos rfl]; exact q
theorem rt_new {n k : Nat} {Q : W → Store → Prop} (hk : n ≤ k) (q : Q (.loc k) S) : RT n Q (.loc k) S := by
  show if (W.loc k).und n = true then _ else _
  rw [if_neg (by simp [W.und]; omega)]; exact q
theorem rt_old {n k : Nat} {Q : W → Store → Prop} (hk : k < n) (q : Q (.loc k) (S.take n)) : RT n Q (.loc k) S := by
  show if (W.loc k).und n = true then _ else _
  rw [if_pos (by simp [W.und]; omega)]; exact q
end
/-! ### loops -/
theorem next_of {α : Type} {f : α → W} {xs pre post : List α} {S : Store} (h : xs = pre ++ post) : (Iter.items (xs.map f)).next pre.length S = some (post.head?.map f) := by
  show some ((xs.map f)[pre.length]?) = _
  subst h
  rw [List.getElem?_map, List.getElem?_append_right (Nat.le_refl _), Nat.sub_self, List.head?_eq_getElem?]
section
variable {α : Type} {bs : List Nat} {N : Env → Store → Prop} {R : W → Store → Prop} {B C : Env → Store → Prop} {E : Nat → List W → Env → Store → Prop}
theorem wp_forG {it : Iter} {f : α → W} {xs : List α} {bd : W → MS} (I : List α → Env → Store → Prop) (hn : ∀ pre post env S, xs = pre ++ post → I pre env S → it.next pre.length S = some (post.head?.map f))
    (step : ∀ pre x post env S, xs = pre ++ x :: post → I pre env S → (bd (f x) bs env S).wp (I (pre ++ [x])) R N (I (pre ++ [x])) E) (done : ∀ env S, I xs env S → N env S) :
    ∀ (fuel : Nat) (pre post : List α) (env : Env) (S : Store), xs = pre ++ post → post.length < fuel → I pre env S → (forG it bd fuel pre.length bs env S).wp N R B C E
  | 0, pre, post, env, S, hx, hf, h => by omega
  | fuel + 1, pre, post, env, S, hx, hf, h => by
    unfold forG
    rw [hn pre post env S hx h]
    cases post with
    | nil =>
      rw [List.append_nil] at hx
      subst hx
      exact done env S h
    | cons x post =>
      have st := step pre x post env S hx h
      show SO.wp (SO.turn (bd (f x) bs env S) _) N R B C E
      generalize bd (f x) bs env S = o at st
      have go : ∀ e S1, I (pre ++ [x]) e S1 → (forG it bd fuel (pre.length + 1) bs e S1).wp N R B C E := fun e S1 h1 => by
        have := wp_forG I hn step done fuel (pre ++ [x]) post e S1 (by simp [hx]) (by simp at hf; omega) h1
        simpa using this
      cases o with
      | nx e S1 => exact go e S1 st
      | rt w S1 => exact st
      | bk e S1 => exact st
      | ct e S1 => exact go e S1 st
      | ex c ws e S1 => exact st
      | stuck => exact st
theorem wp_for {mi : M Iter} {t : TM} {m : MS} {env : Env} {S : Store} (h : (mi bs env S).wp (fun it S1 => (forG it (tBody t m) it.fuel 0 bs env S1).wp N R B C E) fun c ws S1 => E c ws env S1) : (sFor mi t m bs env S).wp N R B C E := so_wp h
/-- over items -/
theorem wp_items {f : α → W} {xs : List α} {bd : W → MS} {env : Env} {S : Store} (I : List α → Env → Store → Prop) (h0 : I [] env S)
    (step : ∀ pre x post env S, xs = pre ++ x :: post → I pre env S → (bd (f x) bs env S).wp (I (pre ++ [x])) R N (I (pre ++ [x])) E) (done : ∀ env S, I xs env S → N env S) :
    (forG (.items (xs.map f)) bd (Iter.items (xs.map f)).fuel 0 bs env S).wp N R B C E :=
  wp_forG I (fun pre post env S hx _ => next_of hx) step done _ [] xs env S rfl (by simp [Iter.fuel]) h0
theorem wp_body {t : TM} {m : MS} {w : W} {env : Env} {S : Store} (h : (t w bs env S).wp (fun e S1 => (m bs e S1).wp N R B C E) fun c ws S1 => E c ws env S1) : (tBody t m w bs env S).wp N R B C E := so_wp h
/-- while -/
theorem wp_while {c : M Bool} {b : MS} (I : Nat → Env → Store → Prop) (step : ∀ k env S, I k env S → (c bs env S).wp (fun v S1 => (v = true → (b bs env S1).wp (fun e S2 => ∃ j, j < k ∧ I j e S2) R N (fun e S2 => ∃ j, j < k ∧ I j e S2) E) ∧ (v = false → N env S1)) fun c ws S1 => E c ws env S1) :
    ∀ (k fuel : Nat) (env : Env) (S : Store), k < fuel → I k env S → (whileG c b fuel bs env S).wp N R B C E
  | k, 0, env, S, hf, h => by omega
  | k, fuel + 1, env, S, hf, h => by
    unfold whileG
    refine so_wp ((step k env S h).imp fun v S1 hv => ?_)
    show SO.wp (if v = true then _ else _) N R B C E
    cases v with
    | false => exact hv.2 rfl
    | true =>
      rw [if_pos rfl]
      have st := hv.1 rfl
      generalize b bs env S1 = o at st
      have go : ∀ e S2, (∃ j, j < k ∧ I j e S2) → (whileG c b fuel bs e S2).wp N R B C E := fun e S2 ⟨j, hj, h1⟩ => wp_while I step j fuel e S2 (by omega) h1
      cases o with
      | nx e S1 => exact go e S1 st
      | rt w S1 => exact st
      | bk e S1 => exact st
      | ct e S1 => exact go e S1 st
      | ex c ws e S1 => exact st
      | stuck => exact st
end
/-! ### comprehensions -/
section
variable {α β : Type} {bs : List Nat} {E : EK}
theorem bindC_wp {α β : Type} {o : Out α} {f : α → Store → Out β} {Q : β → Store → Prop} {E : EK} (h : o.wp (fun a S => (f a S).wp Q E) NoE) : (o.bindC f).wp Q E := by
  cases o with
  | ok a S => exact h
  | ex c ws S => exact h.elim
  | stuck => exact h
theorem wp_compG {it : Iter} {f : α → W} {xs : List α} {t : TM} {c : M Bool} {e : M W} {env : Env} {Q : List W → Store → Prop} (I : List α → List W → Store → Prop) (hn : ∀ pre post acc S, xs = pre ++ post → I pre acc S → it.next pre.length S = some (post.head?.map f))
    (step : ∀ pre x post acc S, xs = pre ++ x :: post → I pre acc S → (t (f x) bs env S).wp (fun env1 S1 => (c bs env1 S1).wp (fun b S2 => (b = true → (e bs env1 S2).wp (fun y S3 => acc.length < 100000 ∧ I (pre ++ [x]) (acc ++ [y]) S3) NoE) ∧ (b = false → I (pre ++ [x]) acc S2)) NoE) NoE)
    (done : ∀ acc S, I xs acc S → Q acc S) :
    ∀ (fuel : Nat) (pre post : List α) (acc : List W) (S : Store), xs = pre ++ post → post.length < fuel → I pre acc S → (compG it t c e fuel pre.length acc bs env S).wp Q E
  | 0, pre, post, acc, S, hx, hf, h => by omega
  | fuel + 1, pre, post, acc, S, hx, hf, h => by
    unfold compG
    simp only [hn pre post acc S hx h]
    cases post with
    | nil =>
      rw [List.append_nil] at hx
      subst hx
      exact done acc S h
    | cons x post =>
      show Out.wp (Out.bindC (t (f x) bs env S) _) Q E
      have go : ∀ acc' S', I (pre ++ [x]) acc' S' → (compG it t c e fuel (pre.length + 1) acc' bs env S').wp Q E := fun acc' S' h1 => by
        have := wp_compG I hn step done fuel (pre ++ [x]) post acc' S' (by simp [hx]) (by simp at hf; omega) h1
        simpa using this
      refine bindC_wp ((step pre x post acc S hx h).imp fun env1 S1 h1 => bindC_wp (h1.imp fun b S2 h2 => ?_))
      cases b with
      | true =>
        rw [if_pos rfl]
        refine bindC_wp ((h2.1 rfl).imp fun y S3 ⟨hl, h3⟩ => ?_)
        rw [if_pos hl]
        exact go _ _ h3
      | false => exact go _ _ (h2.2 rfl)
theorem wp_comp {k : Bool} {mi : M Iter} {vs : List Nat} {t : TM} {c : M Bool} {e : M W} {env : Env} {S : Store} {Q : W → Store → Prop} (h : (mi bs env S).wp (fun it S1 => (compG it t c e it.fuel 0 [] bs (wipeE env vs) S1).wp (fun ws S2 => NL k Q ws S2) E) E) : (mComp k mi vs t c e bs env S).wp Q E :=
  bind_wp (h.imp fun it S1 h1 => bind_wp h1)
/-- the turns change nothing: what is kept of each item -/
theorem wp_compP {f : α → W} {xs : List α} {t : TM} {c : M Bool} {e : M W} {env : Env} {S : Store} {Q : List W → Store → Prop} (g : α → Option W) (hl : xs.length ≤ 100000)
    (step : ∀ x ∈ xs, (t (f x) bs env S).wp (fun env1 S1 => (c bs env1 S1).wp (fun b S2 => (b = true → (e bs env1 S2).wp (fun y S3 => g x = some y ∧ S3 = S) NoE) ∧ (b = false → g x = none ∧ S2 = S)) NoE) NoE)
    (q : Q (xs.filterMap g) S) : (compG (.items (xs.map f)) t c e (Iter.items (xs.map f)).fuel 0 [] bs env S).wp Q E := by
  refine wp_compG (f := f) (xs := xs) (fun pre acc S' => acc = pre.filterMap g ∧ S' = S) (fun pre post acc S hx _ => next_of hx) (fun pre x post acc S' hx ⟨h1, h2⟩ => ?_) (fun acc S' ⟨h1, h2⟩ => by subst h1 h2; exact q) _ [] xs [] S rfl (by simp [Iter.fuel]) ⟨rfl, rfl⟩
  subst h2
  have hm : x ∈ xs := by rw [hx]; simp
  refine (step x hm).imp fun env1 S1 h3 => h3.imp fun b S2 h4 => ⟨fun hb => (h4.1 hb).imp fun y S3 ⟨h5, h6⟩ => ⟨?_, ?_, h6⟩, fun hb => ⟨?_, (h4.2 hb).2⟩⟩
  · have := List.length_filterMap_le g pre
    have h7 := congrArg List.length hx
    simp at h7
    rw [h1]; omega
  · rw [h1]; simp [h5]
  · rw [h1]; simp [(h4.2 hb).1]
/-- one name, no condition -/
theorem wp_compM {f : α → W} {xs : List α} {i : Nat} {e : M W} {env : Env} {S : Store} {Q : List W → Store → Prop} (g : α → W) (hl : xs.length ≤ 100000) (step : ∀ x ∈ xs, (e bs (env.set i (some (f x))) S).wp (fun y S3 => y = g x ∧ S3 = S) NoE)
    (q : Q (xs.map g) S) : (compG (.items (xs.map f)) (tName i) mYes e (Iter.items (xs.map f)).fuel 0 [] bs env S).wp Q E := by
  refine wp_compP (fun x => some (g x)) hl (fun x hx => wp_name (wp_yes ⟨fun _ => (step x hx).imp fun y S3 ⟨h1, h2⟩ => ⟨by rw [h1], h2⟩, fun h => (nomatch h)⟩)) ?_
  simpa using q
theorem nl_dat {ds : List PyData} {S : Store} {Q : W → Store → Prop} (q : Q (.dat (.list ds)) S) : NL false Q (ds.map .dat) S := by
  show Q (mkLst (ds.map .dat)) S
  rw [mkLst_dat]; exact q
theorem nl_map {f : α → PyData} {xs : List α} {S : Store} {Q : W → Store → Prop} (q : Q (.dat (.list (xs.map f))) S) : NL false Q (xs.map fun x => .dat (f x)) S := by
  have : (xs.map fun x => W.dat (f x)) = (xs.map f).map .dat := by simp
  rw [this]; exact nl_dat q
theorem nl_cell {ws : List W} {S : Store} {Q : W → Store → Prop} (q : Q (.loc S.length) (S ++ [.lst ws])) : NL true Q ws S := q
end
end Rf

namespace Rf
open PySem L2

/-! ### operations, by the shapes of what they get -/
section
variable {bs : List Nat} {S : Store} {k : Bool} {i j : Int} {a b : Str} {xs ys : List PyData} {Q : W → Store → Prop} {P : W → Prop}
theorem add_int (q : Q (.dat (.int (i + j))) S) : wpo (addF k bs (.dat (.int i)) (.dat (.int j)) S) Q := q
theorem add_str (h : a.length + b.length ≤ 100000) (q : Q (.dat (.str (a ++ b))) S) : wpo (addF k bs (.dat (.str a)) (.dat (.str b)) S) Q := by
  show wpo (if a.length + b.length ≤ 100000 then some (.str (a ++ b), S) else none) Q
  rw [if_pos h]; exact q
theorem add_tup (h : xs.length + ys.length ≤ 100000) (q : Q (.dat (.tuple (xs ++ ys))) S) : wpo (addF k bs (.dat (.tuple xs)) (.dat (.tuple ys)) S) Q := by
  show wpo (if xs.length + ys.length ≤ 100000 then some (.dat (.tuple (xs ++ ys)), S) else none) Q
  rw [if_pos h]; exact q
theorem add_lst (h : xs.length + ys.length ≤ 100000) (q : Q (.dat (.list (xs ++ ys))) S) : wpo (addF false bs (.dat (.list xs)) (.dat (.list ys)) S) Q := by
  show wpo (if (xs.map W.dat).length + (ys.map W.dat).length ≤ 100000 then some (newL false (xs.map W.dat ++ ys.map W.dat) S) else none) Q
  rw [if_pos (by simpa using h), ← List.map_append]
  show Q (mkLst ((xs ++ ys).map W.dat)) S
  rw [mkLst_dat]; exact q
theorem sub_int (q : Q (.dat (.int (i - j))) S) : wpo (subF bs (.dat (.int i)) (.dat (.int j)) S) Q := q
theorem mod_int (h : 0 < j) (q : Q (.dat (.int (i % j))) S) : wpo (modF bs (.dat (.int i)) (.dat (.int j)) S) Q := by
  show wpo (((if 0 < j then some (i % j) else none) : Option Int).map fun z => (W.int z, S)) Q
  rw [if_pos h]; exact q
theorem log_lt {t : Int} (h2 : t.natAbs ≤ 1000000000000000000000000000000000000) : t.natAbs.log2 < 9000 := by
  by_cases h : t.natAbs = 0
  · rw [h]; decide
  · have e : (1000000000000000000000000000000000000 : Nat) < 2 ^ 9000 := by
      calc (1000000000000000000000000000000000000 : Nat) < 2 ^ 120 := by decide
        _ ≤ 2 ^ 9000 := Nat.pow_le_pow_right (by decide) (by decide)
    exact (Nat.log2_lt h).mpr (by omega)
theorem div_int (h : 0 < j ∧ j ≤ 1000000000000000000000000000000000000) (q : Q (.dat (.int (i / j))) S) : wpo (fdivF bs (.dat (.int i)) (.dat (.int j)) S) Q := by
  show wpo (((if 0 < j ∧ j.natAbs.log2 < 9000 then some (i / j) else none) : Option Int).map fun z => (W.int z, S)) Q
  rw [if_pos ⟨h.1, log_lt (by omega)⟩]; exact q
theorem pow_int {r : Int} (h : 0 ≤ j ∧ (i.natAbs.log2 + 1) * j.toNat ≤ 100000000) (e : i ^ j.toNat = r) (q : Q (.dat (.int r)) S) : wpo (powF bs (.dat (.int i)) (.dat (.int j)) S) Q := by
  subst e
  show wpo (((if 0 ≤ j ∧ (i.natAbs.log2 + 1) * j.toNat ≤ 100000000 then some (i ^ j.toNat) else none) : Option Int).map fun z => (W.int z, S)) Q
  rw [if_pos h]; exact q
theorem mulOk_l (h : i.natAbs < 18446744073709551616) : mulOk i j = true := by unfold mulOk; rw [decide_eq_true h]; rfl
theorem mulOk_r (h : j.natAbs < 18446744073709551616) : mulOk i j = true := by unfold mulOk; rw [decide_eq_true h]; simp
theorem mul_int (h : mulOk i j = true) (q : Q (.dat (.int (i * j))) S) : wpo (mulF k bs (.dat (.int i)) (.dat (.int j)) S) Q := by
  show wpo (if mulOk i j = true then some (W.int (i * j), S) else none) Q
  rw [if_pos h]; exact q
theorem mul_tup (h : xs.length ≤ 1000 ∧ 0 < xs.length ∧ 2 ≤ j ∧ j ≤ 1000) (q : Q (.dat (.tuple (List.replicate j.toNat xs).flatten)) S) : wpo (mulF k bs (.dat (.tuple xs)) (.dat (.int j)) S) Q := by
  show wpo (if (xs.map W.dat).length ≤ 1000 ∧ 0 < (xs.map W.dat).length ∧ 2 ≤ j ∧ j ≤ 1000 then some (mkTup (List.replicate j.toNat (xs.map W.dat)).flatten, S) else none) Q
  rw [if_pos (by simpa using h)]
  show Q (mkTup (List.replicate j.toNat (xs.map W.dat)).flatten) S
  have e : (List.replicate j.toNat (xs.map W.dat)).flatten = (List.replicate j.toNat xs).flatten.map W.dat := by simp [List.map_flatten, List.map_replicate]
  rw [e, mkTup_dat]; exact q
theorem lt_int (q : Q (.dat (.bool (decide (i < j)))) S) : wpo (ordF .lt bs (.dat (.int i)) (.dat (.int j)) S) Q := q
theorem le_int (q : Q (.dat (.bool (decide (i ≤ j)))) S) : wpo (ordF .le bs (.dat (.int i)) (.dat (.int j)) S) Q := q
theorem gt_int (q : Q (.dat (.bool (decide (j < i)))) S) : wpo (ordF .gt bs (.dat (.int i)) (.dat (.int j)) S) Q := q
theorem ge_int (q : Q (.dat (.bool (decide (j ≤ i)))) S) : wpo (ordF .ge bs (.dat (.int i)) (.dat (.int j)) S) Q := q
theorem lt_str (q : Q (.dat (.bool (decide (a.cps.toList < b.cps.toList)))) S) : wpo (ordF .lt bs (.dat (.str a)) (.dat (.str b)) S) Q := q
theorem lt_rows {ns ms : List Int} (q : Q (.dat (.bool (lexB Ord.lt.int Ord.lt.nat ns ms))) S) : wpo (ordF .lt bs (.dat (.tuple (ns.map .int))) (.dat (.tuple (ms.map .int))) S) Q := by
  show wpo (match intsD (ns.map .int), intsD (ms.map .int) with | some ns, some ms => some (.bl (lexB Ord.lt.int Ord.lt.nat ns ms), S) | _, _ => none) Q
  rw [intsD_map, intsD_map]; exact q
/-! equality -/
theorem eq_view {neg : Bool} {x y : W} {d e : PyData} (hx : viewD S x = some d) (hy : viewD S y = some e) (hd : d.plain = true) (he : e.plain = true) (hl : d.depth ≤ 64) (q : Q (.dat (.bool (PyData.eqv d e != neg))) S) : wpo (eqF neg bs x y S) Q := by
  unfold eqF
  rw [hx, hy]
  show wpo (if d.plain = true ∧ e.plain = true ∧ d.depth ≤ 64 then some (W.bl (PyData.eqv d e != neg), S) else none) Q
  rw [if_pos ⟨hd, he, hl⟩]; exact q
theorem eq_int (q : Q (.dat (.bool (decide (i = j)))) S) : wpo (eqF false bs (.dat (.int i)) (.dat (.int j)) S) Q := by
  refine eq_view rfl rfl rfl rfl (by simp [PyData.depth]) ?_
  have e : (PyData.eqv (.int i) (.int j) != false) = decide (i = j) := by
    show ((i == j) != false) = _
    by_cases h : i = j <;> simp [h]
  rw [e]; exact q
theorem ne_int (q : Q (.dat (.bool (!decide (i = j)))) S) : wpo (eqF true bs (.dat (.int i)) (.dat (.int j)) S) Q := by
  refine eq_view rfl rfl rfl rfl (by simp [PyData.depth]) ?_
  have e : (PyData.eqv (.int i) (.int j) != true) = !decide (i = j) := by
    show ((i == j) != true) = _
    by_cases h : i = j <;> simp [h]
  rw [e]; exact q
theorem eq_str (q : Q (.dat (.bool (decide (a = b)))) S) : wpo (eqF false bs (.dat (.str a)) (.dat (.str b)) S) Q := by
  refine eq_view rfl rfl rfl rfl (by simp [PyData.depth]) ?_
  have e : (PyData.eqv (.str a) (.str b) != false) = decide (a = b) := by
    show ((a == b) != false) = _
    by_cases h : a = b <;> simp [h]
  rw [e]; exact q
theorem ne_str (q : Q (.dat (.bool (!decide (a = b)))) S) : wpo (eqF true bs (.dat (.str a)) (.dat (.str b)) S) Q := by
  refine eq_view rfl rfl rfl rfl (by simp [PyData.depth]) ?_
  have e : (PyData.eqv (.str a) (.str b) != true) = !decide (a = b) := by
    show ((a == b) != true) = _
    by_cases h : a = b <;> simp [h]
  rw [e]; exact q
theorem eq_dat {d e : PyData} (hd : d.plain = true ∧ e.plain = true ∧ d.depth ≤ 64) (q : Q (.dat (.bool (PyData.eqv d e))) S) : wpo (eqF false bs (.dat d) (.dat e) S) Q :=
  eq_view rfl rfl hd.1 hd.2.1 hd.2.2 (by simpa using q)
theorem ne_dat {d e : PyData} (hd : d.plain = true ∧ e.plain = true ∧ d.depth ≤ 64) (q : Q (.dat (.bool (!PyData.eqv d e))) S) : wpo (eqF true bs (.dat d) (.dat e) S) Q :=
  eq_view rfl rfl hd.1 hd.2.1 hd.2.2 (by simpa using q)
/-- is None -/
def noneB : PyData → Bool
  | .none => true
  | _ => false
theorem isn_dat {d : PyData} (q : Q (.dat (.bool (noneB d))) S) : wpo (isNF false bs (.dat d) (.dat .none) S) Q := by
  cases d <;> exact q
theorem isnt_dat {d : PyData} (q : Q (.dat (.bool (!noneB d))) S) : wpo (isNF true bs (.dat d) (.dat .none) S) Q := by
  cases d <;> exact q
/-! indices, lengths -/
theorem seq_loc {n : Nat} {ws : List W} (h : S[n]? = some (.lst ws)) : seqOf S (.loc n) = some ws := by
  simp only [seqOf, tupOf, lstOf, h]
theorem ix_seq {x w : W} {ws : List W} (h : seqOf S x = some ws) (hi : L2.atI ws i = some w) (q : Q w S) : wpo (ixF bs x (.dat (.int i)) S) Q := by
  unfold ixF
  rw [h]
  show wpo ((L2.atI ws i).map (·, S)) Q
  rw [hi]; exact q
theorem atI_ofNat {α : Type} {ws : List α} {n : Nat} {w : α} (h : ws[n]? = some w) : L2.atI ws (n : Int) = some w := by
  have hn := (List.getElem?_eq_some_iff.mp h).1
  unfold L2.atI ixN
  rw [if_pos (by omega), if_pos (by omega)]
  simpa using h
theorem ix_loc {n : Nat} {w : W} {ws : List W} (h : S[n]? = some (.lst ws)) (hi : L2.atI ws i = some w) (q : Q w S) : wpo (ixF bs (.loc n) (.dat (.int i)) S) Q := ix_seq (seq_loc h) hi q
theorem atI_map {α β : Type} (f : α → β) (l : List α) (i : Int) : L2.atI (l.map f) i = (L2.atI l i).map f := by
  unfold L2.atI
  rw [List.length_map]
  cases ixN l.length i with
  | none => rfl
  | some j => simp
theorem ix_tup {d : PyData} (hi : L2.atI xs i = some d) (q : Q (.dat d) S) : wpo (ixF bs (.dat (.tuple xs)) (.dat (.int i)) S) Q := ix_seq (ws := xs.map .dat) rfl (by rw [atI_map, hi]; rfl) q
theorem ix_lst {d : PyData} (hi : L2.atI xs i = some d) (q : Q (.dat d) S) : wpo (ixF bs (.dat (.list xs)) (.dat (.int i)) S) Q := ix_seq (ws := xs.map .dat) rfl (by rw [atI_map, hi]; rfl) q
theorem ix_str {c : Nat} (h : a.length ≤ 100000) (hi : L2.atI a.cps.toList i = some c) (q : Q (.dat (.str ⟨#[c]⟩)) S) : wpo (ixF bs (.dat (.str a)) (.dat (.int i)) S) Q := by
  show wpo (if a.length ≤ 100000 then (L2.atI a.cps.toList i).map fun c => (W.str ⟨#[c]⟩, S) else none) Q
  rw [if_pos h, hi]; exact q
theorem len_tup (q : Q (.dat (.int xs.length)) S) : wpo (un lenW bs [.dat (.tuple xs)] S) Q := by
  have : un lenW bs [.dat (.tuple xs)] S = some (.dat (.int xs.length), S) := by simp [un, lenW, seqOf, tupOf]
  rw [this]; exact q
theorem len_lst (q : Q (.dat (.int xs.length)) S) : wpo (un lenW bs [.dat (.list xs)] S) Q := by
  have : un lenW bs [.dat (.list xs)] S = some (.dat (.int xs.length), S) := by simp [un, lenW, seqOf, tupOf, lstOf]
  rw [this]; exact q
theorem len_loc {n : Nat} {ws : List W} (h : S[n]? = some (.lst ws)) (q : Q (.dat (.int ws.length)) S) : wpo (un lenW bs [.loc n] S) Q := by
  have : un lenW bs [.loc n] S = some (.dat (.int ws.length), S) := by simp [un, lenW, seq_loc h]
  rw [this]; exact q
theorem len_tw {ws : List W} (q : Q (.dat (.int ws.length)) S) : wpo (un lenW bs [.tw ws] S) Q := q
theorem len_lw {ws : List W} (q : Q (.dat (.int ws.length)) S) : wpo (un lenW bs [.lw ws] S) Q := q
theorem len_str (h : a.length ≤ 100000) (q : Q (.dat (.int a.length)) S) : wpo (un lenW bs [.dat (.str a)] S) Q := by
  have : un lenW bs [.dat (.str a)] S = some (.dat (.int a.length), S) := by simp [un, lenW, seqOf, tupOf, lstOf, h]
  rw [this]; exact q
theorem int_int (q : Q (.dat (.int i)) S) : wpo (un intW bs [.dat (.int i)] S) Q := q
theorem int_bool {v : Bool} (q : Q (.dat (.int (if v then 1 else 0))) S) : wpo (un intW bs [.dat (.bool v)] S) Q := q
theorem abs_int (q : Q (.dat (.int (if i < 0 then -i else i))) S) : wpo (un absW bs [.dat (.int i)] S) Q := q
theorem max_int (q : Q (.dat (.int (if j > i then j else i))) S) : wpo (max2F bs [.dat (.int i), .dat (.int j)] S) Q := q
theorem min_int (q : Q (.dat (.int (if j < i then j else i))) S) : wpo (min2F bs [.dat (.int i), .dat (.int j)] S) Q := q
theorem all_map {α : Type} {p : α → Bool} {l : List α} (q : Q (.dat (.bool (l.all p))) S) : wpo (un allF bs [.dat (.list (l.map fun x => .bool (p x)))] S) Q := by
  have e : (l.map fun x => PyData.bool (p x)).map W.dat = (l.map p).map W.bl := by simp
  have : un allF bs [.dat (.list (l.map fun x => .bool (p x)))] S = some (.dat (.bool (l.all p)), S) := by
    simp only [un, allF, lstOf, e, bools_map, Option.map_some]
    simp [List.all_map, Function.comp_def]
  rw [this]; exact q
theorem any_map {α : Type} {p : α → Bool} {l : List α} (q : Q (.dat (.bool (l.any p))) S) : wpo (un anyF bs [.dat (.list (l.map fun x => .bool (p x)))] S) Q := by
  have e : (l.map fun x => PyData.bool (p x)).map W.dat = (l.map p).map W.bl := by simp
  have : un anyF bs [.dat (.list (l.map fun x => .bool (p x)))] S = some (.dat (.bool (l.any p)), S) := by
    simp only [un, anyF, lstOf, e, bools_map, Option.map_some]
    simp [List.any_map, Function.comp_def]
  rw [this]; exact q
theorem tuple_lst (q : Q (.dat (.tuple xs)) S) : wpo (tupleF bs [.dat (.list xs)] S) Q := by
  show Q (mkTup (xs.map W.dat)) S
  rw [mkTup_dat]; exact q
theorem tuple_tup (q : Q (.dat (.tuple xs)) S) : wpo (tupleF bs [.dat (.tuple xs)] S) Q := q
theorem tuple_loc {n : Nat} {ws : List W} {ds : List PyData} (h : S[n]? = some (.lst ws)) (hw : ws = ds.map .dat) (q : Q (.dat (.tuple ds)) S) : wpo (tupleF bs [.loc n] S) Q := by
  have : tupleF bs [.loc n] S = some (.dat (.tuple ds), S) := by simp only [tupleF, tupOf, lstOf, h, hw, mkTup_dat, Option.map_some]
  rw [this]; exact q
theorem list_lst (q : Q (.dat (.list xs)) S) : wpo (listF false bs [.dat (.list xs)] S) Q := by
  show Q (mkLst (xs.map W.dat)) S
  rw [mkLst_dat]; exact q
theorem list_tup (q : Q (.dat (.list xs)) S) : wpo (listF false bs [.dat (.tuple xs)] S) Q := by
  show Q (mkLst (xs.map W.dat)) S
  rw [mkLst_dat]; exact q
theorem list_loc {n : Nat} {ws : List W} {ds : List PyData} (h : S[n]? = some (.lst ws)) (hw : ws = ds.map .dat) (q : Q (.dat (.list ds)) S) : wpo (listF false bs [.loc n] S) Q := by
  have : listF false bs [.loc n] S = some (.dat (.list ds), S) := by simp only [listF, seq_loc h, hw, Option.map_some]; show some (mkLst (ds.map W.dat), S) = _; rw [mkLst_dat]
  rw [this]; exact q
/-! slices -/
theorem sl_tup {lo hi : Option Int} (q : Q (.dat (.tuple (cutW xs lo hi))) S) : wpo (slF k (.dat (.tuple xs)) lo hi S) Q := by
  have : slF k (.dat (.tuple xs)) lo hi S = some (.dat (.tuple (cutW xs lo hi)), S) := by
    unfold slF
    simp only [tupOf, List.length_map]
    split
    · rename_i h
      unfold cutW
      rw [h.1, h.2]; simp
    · have e : cutW (xs.map W.dat) lo hi = (cutW xs lo hi).map W.dat := by unfold cutW; rw [List.length_map, ← List.map_drop, ← List.map_take]
      rw [e, mkTup_dat]
  rw [this]; exact q
theorem sl_lst {lo hi : Option Int} (q : Q (.dat (.list (cutW xs lo hi))) S) : wpo (slF false (.dat (.list xs)) lo hi S) Q := by
  have : slF false (.dat (.list xs)) lo hi S = some (.dat (.list (cutW xs lo hi)), S) := by
    unfold slF
    simp only [tupOf, lstOf]
    have e : cutW (xs.map W.dat) lo hi = (cutW xs lo hi).map W.dat := by unfold cutW; rw [List.length_map, ← List.map_drop, ← List.map_take]
    rw [e]
    show some (mkLst _, S) = _
    rw [mkLst_dat]
  rw [this]; exact q
/-! cells -/
theorem may_d (bs : List Nat) (n : Nat) (d : PyData) : mayW bs n (.dat d) = true := by unfold mayW; simp [W.und]
theorem set_loc {P : Store → Prop} {n m : Nat} {ws : List W} {d : PyData} (h : S[n]? = some (.lst ws)) (hi : ixN ws.length i = some m) (q : P (S.set n (.lst (ws.set m (.dat d))))) : ∃ S3, setF bs (.loc n) (.dat (.int i)) (.dat d) S = some S3 ∧ P S3 := by
  refine ⟨_, ?_, q⟩
  unfold setF
  simp only [h, hi, may_d, if_true]
theorem app_loc {n : Nat} {ws : List W} {d : PyData} (h : S[n]? = some (.lst ws)) (hl : ws.length < 100000) (q : Q (.dat .none) (S.set n (.lst (ws ++ [.dat d])))) : wpo (appF bs (.loc n) [.dat d] S) Q := by
  unfold appF
  simp only [h]
  rw [if_pos ⟨hl, may_d _ _ _⟩]; exact q
theorem ext_loc {n : Nat} {ws : List W} (h : S[n]? = some (.lst ws)) (hl : ws.length + xs.length ≤ 100000) (q : Q (.dat .none) (S.set n (.lst (ws ++ xs.map .dat)))) : wpo (extF bs (.loc n) [.dat (.list xs)] S) Q := by
  unfold extF extOf
  simp only [h, List.length_map]
  rw [if_pos]
  · exact q
  · refine ⟨hl, ?_⟩
    rw [List.all_eq_true]
    intro w hw
    obtain ⟨d, _, rfl⟩ := List.mem_map.mp hw
    exact may_d _ _ _
theorem ty_loc {n : Nat} {ws : List W} (h : S[n]? = some (.lst ws)) : wTy .lst (.loc n) S = true := by simp [wTy, lstOf, h]
theorem ty_dic {n : Nat} {ws : List (PyData × W)} (h : S[n]? = some (.dic ws)) : wTy .dic (.loc n) S = true := by simp [wTy, dicOf, h]
/-! what a walk gets -/
theorem itd_tup {Q : Iter → Prop} (q : Q (.items (xs.map .dat))) : ∃ it, iterA S (.dat (.tuple xs)) = some it ∧ Q it := ⟨_, rfl, q⟩
theorem itd_lst {Q : Iter → Prop} (q : Q (.items (xs.map .dat))) : ∃ it, iterA S (.dat (.list xs)) = some it ∧ Q it := ⟨_, rfl, q⟩
/-! answers -/
theorem ifT {A B : Prop} (h : A) : (true = true → A) ∧ (true = false → B) := ⟨fun _ => h, fun z => (nomatch z)⟩
theorem ifF {A B : Prop} (h : B) : (false = true → A) ∧ (false = false → B) := ⟨fun z => (nomatch z), fun _ => h⟩
theorem ifD {p A B : Prop} [Decidable p] (h : p → A) (g : ¬ p → B) : (decide p = true → A) ∧ (decide p = false → B) := ⟨fun z => h (of_decide_eq_true z), fun z => g (of_decide_eq_false z)⟩
theorem ifN {p A B : Prop} [Decidable p] (h : p → B) (g : ¬ p → A) : ((!decide p) = true → A) ∧ ((!decide p) = false → B) := ⟨fun z => g (by simpa using z), fun z => h (by simpa using z)⟩
theorem ifNB {c : Bool} {A B : Prop} (h : c = true → B) (g : c = false → A) : ((!c) = true → A) ∧ ((!c) = false → B) := ⟨fun z => g (by simpa using z), fun z => h (by simpa using z)⟩
theorem exTru {w : W} {b : Bool} {Q : Bool → Prop} (h : truW S w = some b) (q : Q b) : ∃ b, truW S w = some b ∧ Q b := ⟨b, h, q⟩
theorem exInt {Q : Int → Prop} (q : Q i) : ∃ j, W.dat (.int i) = .dat (.int j) ∧ Q j := ⟨i, rfl, q⟩
theorem exIsi {T : String} {w u : W} {Q : W → Prop} (h : isiW T S w = some u) (q : Q u) : ∃ u, isiW T S w = some u ∧ Q u := ⟨u, h, q⟩
theorem ex2 {w u : W} {Q : W → W → Prop} (q : Q w u) : ∃ a b, [w, u] = [a, b] ∧ Q a b := ⟨w, u, rfl, q⟩
theorem ex3 {w u z : W} {Q : W → W → W → Prop} (q : Q w u z) : ∃ a b c, [w, u, z] = [a, b, c] ∧ Q a b c := ⟨w, u, z, rfl, q⟩
theorem exRng1 {Q : Int → Prop} (h : i < 4611686018427387904 ∧ -4611686018427387904 ≤ i) (q : Q i) : ∃ n, [W.dat (.int i)] = [.dat (.int n)] ∧ (n < 4611686018427387904 ∧ -4611686018427387904 ≤ n) ∧ Q n := ⟨i, rfl, h, q⟩
theorem exRng2 {Q : Int → Int → Prop} (h : (j < 4611686018427387904 ∧ -4611686018427387904 ≤ j) ∧ (i < 4611686018427387904 ∧ -4611686018427387904 ≤ i)) (q : Q i j) :
    ∃ a n, [W.dat (.int i), W.dat (.int j)] = [.dat (.int a), .dat (.int n)] ∧ ((n < 4611686018427387904 ∧ -4611686018427387904 ≤ n) ∧ (a < 4611686018427387904 ∧ -4611686018427387904 ≤ a)) ∧ Q a n := ⟨i, j, rfl, h, q⟩
end
/-! kinds -/
theorem kb1 : kitB "int" "int" = some true := by decide +kernel
theorem kb2 : kitB "bool" "int" = some true := by decide +kernel
theorem kb3 : kitB "str" "int" = some false := by decide +kernel
theorem kb4 : kitB "NoneType" "int" = some false := by decide +kernel
theorem kb5 : kitB "list" "int" = some false := by decide +kernel
theorem kb6 : kitB "tuple" "int" = some false := by decide +kernel
theorem kb7 : kitB "dict" "int" = some false := by decide +kernel
theorem kc1 : kitB "int" "bool" = some false := by decide +kernel
theorem kc2 : kitB "bool" "bool" = some true := by decide +kernel
theorem kc3 : kitB "str" "bool" = some false := by decide +kernel
theorem kc4 : kitB "NoneType" "bool" = some false := by decide +kernel
theorem kc5 : kitB "list" "bool" = some false := by decide +kernel
theorem kc6 : kitB "tuple" "bool" = some false := by decide +kernel
theorem kc7 : kitB "dict" "bool" = some false := by decide +kernel
theorem kt1 : kitB "int" "tuple" = some false := by decide +kernel
theorem kt2 : kitB "bool" "tuple" = some false := by decide +kernel
theorem kt3 : kitB "str" "tuple" = some false := by decide +kernel
theorem kt4 : kitB "NoneType" "tuple" = some false := by decide +kernel
theorem kt5 : kitB "list" "tuple" = some false := by decide +kernel
theorem kt6 : kitB "tuple" "tuple" = some true := by decide +kernel
theorem kt7 : kitB "dict" "tuple" = some false := by decide +kernel
theorem ks1 : kitB "int" "str" = some false := by decide +kernel
theorem ks2 : kitB "bool" "str" = some false := by decide +kernel
theorem ks3 : kitB "str" "str" = some true := by decide +kernel
theorem ks4 : kitB "NoneType" "str" = some false := by decide +kernel
theorem ks5 : kitB "list" "str" = some false := by decide +kernel
theorem ks6 : kitB "tuple" "str" = some false := by decide +kernel
theorem ks7 : kitB "dict" "str" = some false := by decide +kernel
theorem kd1 : kitB "int" "dict" = some false := by decide +kernel
theorem kd2 : kitB "bool" "dict" = some false := by decide +kernel
theorem kd3 : kitB "str" "dict" = some false := by decide +kernel
theorem kd4 : kitB "NoneType" "dict" = some false := by decide +kernel
theorem kd5 : kitB "list" "dict" = some false := by decide +kernel
theorem kd6 : kitB "tuple" "dict" = some false := by decide +kernel
theorem kd7 : kitB "dict" "dict" = some true := by decide +kernel
def intB : PyData → Bool
  | .int _ | .bool _ => true
  | _ => false
def boolB : PyData → Bool
  | .bool _ => true
  | _ => false
def tupB : PyData → Bool
  | .tuple _ => true
  | _ => false
def strB : PyData → Bool
  | .str _ => true
  | _ => false
def dicB : PyData → Bool
  | .dict _ => true
  | _ => false
theorem isi_int {S : Store} {d : PyData} {Q : W → Prop} (q : Q (.dat (.bool (intB d)))) : ∃ u, isiW "int" S (.dat d) = some u ∧ Q u := by
  refine ⟨_, ?_, q⟩
  cases d <;> simp [isiW, tyW, kb1, kb2, kb3, kb4, kb5, kb6, kb7, intB]
theorem isi_bool {S : Store} {d : PyData} {Q : W → Prop} (q : Q (.dat (.bool (boolB d)))) : ∃ u, isiW "bool" S (.dat d) = some u ∧ Q u := by
  refine ⟨_, ?_, q⟩
  cases d <;> simp [isiW, tyW, kc1, kc2, kc3, kc4, kc5, kc6, kc7, boolB]
theorem isi_tup {S : Store} {d : PyData} {Q : W → Prop} (q : Q (.dat (.bool (tupB d)))) : ∃ u, isiW "tuple" S (.dat d) = some u ∧ Q u := by
  refine ⟨_, ?_, q⟩
  cases d <;> simp [isiW, tyW, kt1, kt2, kt3, kt4, kt5, kt6, kt7, tupB]
theorem isi_str {S : Store} {d : PyData} {Q : W → Prop} (q : Q (.dat (.bool (strB d)))) : ∃ u, isiW "str" S (.dat d) = some u ∧ Q u := by
  refine ⟨_, ?_, q⟩
  cases d <;> simp [isiW, tyW, ks1, ks2, ks3, ks4, ks5, ks6, ks7, strB]
theorem isi_dic {S : Store} {d : PyData} {Q : W → Prop} (q : Q (.dat (.bool (dicB d)))) : ∃ u, isiW "dict" S (.dat d) = some u ∧ Q u := by
  refine ⟨_, ?_, q⟩
  cases d <;> simp [isiW, tyW, kd1, kd2, kd3, kd4, kd5, kd6, kd7, dicB]
theorem isi_dicC {S : Store} {n : Nat} {ws : List (PyData × W)} {Q : W → Prop} (h : S[n]? = some (.dic ws)) (q : Q (.dat (.bool true))) : ∃ u, isiW "dict" S (.loc n) = some u ∧ Q u := by
  refine ⟨_, ?_, q⟩
  simp [isiW, tyW, h, kd7]
end Rf


local macro_rules
  | `(tactic| array_get_dec) => `(tactic| first
    | (with_reducible refine Rf.wp_seq ?_)
    | (with_reducible refine Rf.wp_asg ?_)
    | (with_reducible refine Rf.wp_name ?_)
    | (with_reducible refine Rf.wp_ret ?_)
    | (with_reducible refine Rf.wp_sIf ?_)
    | (with_reducible refine Rf.wp_drop ?_)
    | (with_reducible refine Rf.wp_varD (by with_unfolding_all exact rfl) ?_)
    | (with_reducible refine Rf.wp_varL (by with_unfolding_all exact rfl) ?_)
    | (with_reducible refine Rf.wp_varT (by with_unfolding_all exact rfl) ?_)
    | (with_reducible refine Rf.wp_varLw (by with_unfolding_all exact rfl) ?_)
    | (with_reducible refine Rf.wp_varKt (by with_unfolding_all exact rfl) ?_)
    | (with_reducible refine Rf.wp_varK (by with_unfolding_all exact rfl) ?_)
    | (with_reducible refine Rf.wp_con ?_)
    | (with_reducible refine Rf.wp_bin ?_)
    | (with_reducible refine Rf.wp_B ?_)
    | (with_reducible refine Rf.isB_mk ?_)
    | (with_reducible refine Rf.wp_not ?_)
    | (with_reducible refine Rf.wp_if ?_)
    | (with_reducible refine Rf.wp_ok ?_)
    | (with_reducible refine Rf.nl_dat ?_)
    | (with_reducible refine Rf.nl_map ?_)
    | (with_reducible refine Rf.nl_cell ?_)
    | (with_reducible refine Rf.wp_yes ?_)
    | (with_reducible refine Rf.wp_tru ?_)
    | (with_reducible refine Rf.wp_andV ?_)
    | (with_reducible refine Rf.wp_orV ?_)
    | (with_reducible refine Rf.wp_notV ?_)
    | (with_reducible refine Rf.exTru (by with_unfolding_all exact rfl) ?_)
    | (with_reducible refine Rf.wp_neg ?_)
    | (with_reducible refine Rf.exInt ?_)
    | (with_reducible refine Rf.wp_chain ?_)
    | (with_reducible refine Rf.wp_cons ?_)
    | (with_reducible refine Rf.wp_nil ?_)
    | (with_reducible refine Rf.wp_tup ?_)
    | (with_reducible refine Rf.tp_dat (by with_unfolding_all exact rfl) (by with_unfolding_all exact rfl) ?_)
    | (with_reducible refine Rf.wp_lst ?_)
    | (with_reducible refine Rf.lp_dat (by with_unfolding_all exact rfl) (by with_unfolding_all exact rfl) ?_)
    | (with_reducible refine Rf.lp_cell (by with_unfolding_all exact rfl) ?_)
    | (with_reducible refine Rf.wp_CB ?_)
    | (with_reducible refine Rf.wp_call ?_)
    | (with_reducible refine Rf.wp_isi ?_)
    | (with_reducible refine Rf.isi_int ?_)
    | (with_reducible refine Rf.isi_bool ?_)
    | (with_reducible refine Rf.isi_tup ?_)
    | (with_reducible refine Rf.isi_str ?_)
    | (with_reducible refine Rf.isi_dic ?_)
    | (with_reducible refine Rf.wp_sl ?_)
    | (with_reducible refine Rf.wp_noPart ?_)
    | (with_reducible refine Rf.wp_part ?_)
    | (with_reducible refine Rf.wp_dic0t ?_)
    | (with_reducible refine Rf.wp_dic0f ?_)
    | (with_reducible refine Rf.wp_par ?_)
    | (with_reducible refine Rf.ex2 ?_)
    | (with_reducible refine Rf.wp_par3 ?_)
    | (with_reducible refine Rf.ex3 ?_)
    | (with_reducible refine Rf.wp_comp ?_)
    | (with_reducible refine Rf.wp_it ?_)
    | (with_reducible refine Rf.itd_tup ?_)
    | (with_reducible refine Rf.itd_lst ?_)
    | (with_reducible refine Rf.wp_for ?_)
    | (with_reducible refine Rf.wp_body ?_)
    | (with_reducible refine Rf.wp_rng1 ?_)
    | (with_reducible refine Rf.wp_rng2 ?_)
    | (with_reducible refine Rf.wp_sNil ?_)
    | (with_reducible refine Rf.wp_retN ?_)
    | (with_reducible refine Rf.wp_brk ?_)
    | (with_reducible refine Rf.wp_cnt ?_)
    | (with_reducible refine Rf.ifT ?_)
    | (with_reducible refine Rf.ifF ?_)
    | (with_reducible refine Rf.add_int ?_)
    | (with_reducible refine Rf.sub_int ?_)
    | ((with_reducible refine Rf.mod_int ?_ ?_); first | decide | omega)
    | ((with_reducible refine Rf.div_int ?_ ?_); first | decide | omega)
    | ((with_reducible refine Rf.mul_int ?_ ?_); first | (refine Rf.mulOk_l ?_; decide) | (refine Rf.mulOk_r ?_; decide) | (refine Rf.mulOk_l ?_; omega) | (refine Rf.mulOk_r ?_; omega))
    | (with_reducible refine Rf.lt_int ?_)
    | (with_reducible refine Rf.le_int ?_)
    | (with_reducible refine Rf.gt_int ?_)
    | (with_reducible refine Rf.ge_int ?_)
    | (with_reducible refine Rf.lt_str ?_)
    | (with_reducible refine Rf.eq_int ?_)
    | (with_reducible refine Rf.ne_int ?_)
    | (with_reducible refine Rf.eq_str ?_)
    | (with_reducible refine Rf.ne_str ?_)
    | (with_reducible refine Rf.isn_dat ?_)
    | (with_reducible refine Rf.isnt_dat ?_)
    | (with_reducible refine Rf.len_tup ?_)
    | (with_reducible refine Rf.len_lst ?_)
    | (with_reducible refine Rf.len_tw ?_)
    | (with_reducible refine Rf.len_lw ?_)
    | (with_reducible refine Rf.int_int ?_)
    | (with_reducible refine Rf.int_bool ?_)
    | (with_reducible refine Rf.abs_int ?_)
    | (with_reducible refine Rf.max_int ?_)
    | (with_reducible refine Rf.min_int ?_)
    | (with_reducible refine Rf.all_map ?_)
    | (with_reducible refine Rf.any_map ?_)
    | (with_reducible refine Rf.tuple_lst ?_)
    | (with_reducible refine Rf.tuple_tup ?_)
    | (with_reducible refine Rf.list_lst ?_)
    | (with_reducible refine Rf.list_tup ?_)
    | (with_reducible refine Rf.sl_tup ?_)
    | (with_reducible refine Rf.sl_lst ?_)
    | (with_reducible refine Rf.rt_same ?_)
    | fail "no rule")

namespace Nm
open PySem L2 PyProof.Rows Rf
theorem getD_at {α : Type} {l : List α} {d : α} {i : Nat} (h : i < l.length) : l.getD i d = l[i] := by rw [List.getD_eq_getElem?_getD, List.getElem?_eq_getElem h]; rfl

/-! ### names as rows of signs, their cells -/
def sg (l : List Nat) : Str := ⟨l.toArray⟩
theorem sg_list (z : Str) : sg z.cps.toList = z := by cases z; rfl
@[simp] theorem sg_cps (l : List Nat) : (sg l).cps.toList = l := by simp [sg]
theorem str_len (z : Str) : z.length = z.cps.toList.length := by cases z; simp [Str.length]
@[simp] theorem sg_len (l : List Nat) : (sg l).length = l.length := by rw [str_len, sg_cps]
theorem sg_inj {l m : List Nat} : sg l = sg m ↔ l = m := ⟨fun h => by have := congrArg (fun z => z.cps.toList) h; simpa using this, fun h => by rw [h]⟩
theorem sg_app (l m : List Nat) : sg l ++ sg m = sg (l ++ m) := by
  show Str.append (sg l) (sg m) = _
  simp [Str.append, sg]
def letB (c : Nat) : Bool := decide (97 ≤ c) && decide (c ≤ 122)
/-- at most eight letters, at least one -/
def nameB (l : List Nat) : Bool := decide (1 ≤ l.length) && decide (l.length ≤ 8) && l.all letB
def figA (l : List Nat) (i : Nat) : Int := if i < l.length then (l.getD i 0 : Int) - 96 else 0
def cellStep (l : List Nat) (c : Int) (i : Nat) : Int := c * 27 + figA l i
def cellOf (l : List Nat) : Int := (List.range 8).foldl (cellStep l) 0
/-- the letters of the last figures of a cell, noughts left out -/
def lo : Nat → Int → List Nat → List Nat × Int
  | 0, c, acc => (acc, c)
  | k + 1, c, acc => lo k (c / 27) (if 0 < c % 27 then ((c % 27).toNat + 96) :: acc else acc)
def letters (c : Int) : List Nat := (lo 8 c []).1
def nameOf (c : Int) : Option (List Nat) := if letters c ≠ [] ∧ cellOf (letters c) = c then some (letters c) else none
theorem lo_len : ∀ (k : Nat) (c : Int) (acc : List Nat), (lo k c acc).1.length ≤ k + acc.length
  | 0, c, acc => by simp [lo]
  | k + 1, c, acc => by
    unfold lo
    have := lo_len k (c / 27) (if 0 < c % 27 then ((c % 27).toNat + 96) :: acc else acc)
    split at this <;> rename_i h
    · rw [if_pos h]; simp at this ⊢; omega
    · rw [if_neg h]; omega
theorem lo_let : ∀ (k : Nat) (c : Int) (acc : List Nat), acc.all letB = true → (lo k c acc).1.all letB = true
  | 0, c, acc, h => h
  | k + 1, c, acc, h => by
    unfold lo
    refine lo_let k _ _ ?_
    split
    · rename_i h2
      rw [List.all_cons, h, Bool.and_true]
      have : c % 27 < 27 := Int.emod_lt_of_pos _ (by decide)
      simp only [letB, Bool.and_eq_true, decide_eq_true_eq]
      omega
    · exact h
theorem letters_name {c : Int} (h : letters c ≠ []) : nameB (letters c) = true := by
  have h1 := lo_len 8 c []
  have h2 := lo_let 8 c [] rfl
  unfold nameB
  have h3 : 1 ≤ (letters c).length := by
    cases e : letters c with
    | nil => exact absurd e h
    | cons a l => simp
  simp only [Bool.and_eq_true, decide_eq_true_eq]
  exact ⟨⟨h3, by unfold letters; simpa using h1⟩, h2⟩
/-! figures of a row of them -/
def val (c : Int) (D : List Nat) : Int := D.foldl (fun (c : Int) (d : Nat) => c * 27 + (d : Int)) c
def pos (D : List Nat) : List Nat := (D.filter fun d => decide (0 < d)).map (· + 96)
theorem val_snoc (c : Int) (D : List Nat) (d : Nat) : val c (D ++ [d]) = val c D * 27 + d := by simp [val]
theorem lo_val : ∀ (n : Nat) (D : List Nat) (c : Int) (acc : List Nat), D.length = n → (∀ d ∈ D, d < 27) → lo n (val c D) acc = (pos D ++ acc, c)
  | 0, D, c, acc, hn, h => by
    have : D = [] := List.length_eq_zero_iff.mp hn
    subst this; simp [lo, val, pos]
  | n + 1, D, c, acc, hn, h => by
    obtain ⟨E, d, rfl⟩ : ∃ E d, D = E ++ [d] := by
      have hne : D ≠ [] := fun z => by subst z; cases hn
      exact ⟨D.dropLast, D.getLast hne, (List.dropLast_concat_getLast hne).symm⟩
    have hd : d < 27 := h d (by simp)
    rw [val_snoc]
    unfold lo
    have e1 : (val c E * 27 + (d : Int)) % 27 = d := by omega
    have e2 : (val c E * 27 + (d : Int)) / 27 = val c E := by omega
    rw [e1, e2, lo_val n E c _ (by simpa using hn) (fun x hx => h x (by simp [hx]))]
    unfold pos
    by_cases hz : 0 < d
    · simp [hz, List.filter_append]
    · have : d = 0 := by omega
      subst this
      simp [List.filter_append]
def figs (l : List Nat) : List Nat := (List.range 8).map fun i => if i < l.length then l.getD i 0 - 96 else 0
theorem cellOf_val {l : List Nat} (h : l.all letB = true) : cellOf l = val 0 (figs l) := by
  unfold cellOf val figs
  rw [List.foldl_map]
  have : ∀ (is : List Nat) (c : Int), is.foldl (cellStep l) c = is.foldl (fun c i => c * 27 + ((if i < l.length then l.getD i 0 - 96 else 0 : Nat) : Int)) c := by
    intro is
    induction is with
    | nil => intro c; rfl
    | cons i is ih =>
      intro c
      rw [List.foldl_cons, List.foldl_cons]
      have e : cellStep l c i = c * 27 + ((if i < l.length then l.getD i 0 - 96 else 0 : Nat) : Int) := by
        unfold cellStep figA
        by_cases hi : i < l.length
        · rw [if_pos hi, if_pos hi]
          have hm : l.getD i 0 ∈ l := by rw [getD_at hi]; exact List.getElem_mem hi
          have := List.all_eq_true.mp h _ hm
          simp only [letB, Bool.and_eq_true, decide_eq_true_eq] at this
          omega
        · rw [if_neg hi, if_neg hi]; rfl
      rw [e, ih]
  exact this _ 0
theorem figs_small {l : List Nat} (h : l.all letB = true) : ∀ d ∈ figs l, d < 27 := by
  intro d hd
  obtain ⟨i, hi, rfl⟩ := List.mem_map.mp hd
  split
  · rename_i hl
    have hm : l.getD i 0 ∈ l := by rw [getD_at hl]; exact List.getElem_mem hl
    have := List.all_eq_true.mp h _ hm
    simp only [letB, Bool.and_eq_true, decide_eq_true_eq] at this
    omega
  · decide
theorem pos_figs {l : List Nat} (h : l.all letB = true) (h8 : l.length ≤ 8) : pos (figs l) = l := by
  have e : figs l = (l.map (· - 96)) ++ List.replicate (8 - l.length) 0 := by
    unfold figs
    apply List.ext_getElem
    · simp; omega
    · intro i h1 h2
      simp at h1
      rw [List.getElem_map, List.getElem_range]
      by_cases hi : i < l.length
      · rw [if_pos hi, List.getElem_append_left (by simpa using hi), List.getElem_map, getD_at hi]
      · rw [if_neg hi, List.getElem_append_right (by simp; omega), List.getElem_replicate]
  rw [e]
  unfold pos
  rw [List.filter_append, List.map_append]
  have z : (List.replicate (8 - l.length) 0).filter (fun d => decide (0 < d)) = [] := by
    rw [List.filter_eq_nil_iff]
    intro d hd
    obtain ⟨_, rfl⟩ := List.mem_replicate.mp hd
    decide
  rw [z]
  simp only [List.map_nil, List.append_nil]
  clear e z h8
  induction l with
  | nil => rfl
  | cons a l ih =>
    rw [List.all_cons, Bool.and_eq_true] at h
    have ha := h.1
    simp only [letB, Bool.and_eq_true, decide_eq_true_eq] at ha
    have : decide (0 < a - 96) = true := by simp; omega
    rw [List.map_cons, List.filter_cons, if_pos this, List.map_cons, ih h.2]
    congr 1
    omega
theorem letters_cell {l : List Nat} (h : nameB l = true) : letters (cellOf l) = l := by
  unfold nameB at h
  simp only [Bool.and_eq_true, decide_eq_true_eq] at h
  unfold letters
  rw [cellOf_val h.2, lo_val 8 (figs l) 0 [] (by simp [figs]) (figs_small h.2), pos_figs h.2 h.1.2]
  simp
theorem nameOf_cell {l : List Nat} (h : nameB l = true) : nameOf (cellOf l) = some l := by
  unfold nameOf
  rw [letters_cell h]
  have : l ≠ [] := fun z => by subst z; simp [nameB] at h
  rw [if_pos ⟨this, rfl⟩]
theorem nameOf_some {c : Int} {l : List Nat} (h : nameOf c = some l) : nameB l = true ∧ cellOf l = c := by
  unfold nameOf at h
  split at h
  · rename_i h2; cases h; exact ⟨letters_name h2.1, h2.2⟩
  · cases h
theorem val_lt (D : List Nat) (h : ∀ d ∈ D, d < 27) : ∀ c : Int, 0 ≤ c → 0 ≤ val c D ∧ val c D < (c + 1) * 27 ^ D.length := by
  induction D with
  | nil => intro c hc; simp [val]; omega
  | cons d D ih =>
    intro c hc
    have hd := h d (by simp)
    have := ih (fun x hx => h x (by simp [hx])) (c * 27 + d) (by omega)
    have e : val c (d :: D) = val (c * 27 + d) D := rfl
    rw [e]
    refine ⟨this.1, Int.lt_of_lt_of_le this.2 ?_⟩
    rw [List.length_cons, Int.pow_succ]
    have h1 : c * 27 + (d : Int) + 1 ≤ (c + 1) * 27 := by omega
    calc (c * 27 + (d : Int) + 1) * 27 ^ D.length ≤ ((c + 1) * 27) * 27 ^ D.length := Int.mul_le_mul_of_nonneg_right h1 (Int.pow_nonneg (by decide))
      _ = (c + 1) * (27 ^ D.length * 27) := by rw [Int.mul_assoc, Int.mul_comm 27]
theorem cellOf_lt {l : List Nat} (h : l.all letB = true) : 0 ≤ cellOf l ∧ cellOf l < 282429536481 := by
  rw [cellOf_val h]
  have := val_lt (figs l) (figs_small h) 0 (by decide)
  have e : (figs l).length = 8 := by simp [figs]
  rw [e] at this
  have e2 : ((0 : Int) + 1) * 27 ^ 8 = 282429536481 := by decide
  rw [e2] at this
  exact this
/-! the law's own way: figures first, then letters -/
def dg : Nat → Int → List Int → List Int × Int
  | 0, c, acc => (acc, c)
  | k + 1, c, acc => dg k (c / 27) (c % 27 :: acc)
def posI (D : List Int) : List Nat := (D.filter fun d => decide (0 < d)).map fun d => d.toNat + 96
theorem dg_lo : ∀ (k : Nat) (c : Int) (acc : List Int), (lo k c (posI acc)) = (posI (dg k c acc).1, (dg k c acc).2)
  | 0, c, acc => rfl
  | k + 1, c, acc => by
    unfold lo dg
    have e : (if 0 < c % 27 then ((c % 27).toNat + 96) :: posI acc else posI acc) = posI (c % 27 :: acc) := by
      unfold posI
      by_cases h : 0 < c % 27
      · simp [h]
      · simp [h]
    rw [e, dg_lo k]
theorem letters_dg (c : Int) : letters c = posI (dg 8 c []).1 := by
  unfold letters
  have := dg_lo 8 c []
  rw [show posI [] = [] from rfl] at this
  rw [this]
theorem dg_left : ∀ (k : Nat) (c : Int) (acc : List Int), 0 ≤ c → c < 27 ^ k → (dg k c acc).2 = 0
  | 0, c, acc, h, h2 => by simp at h2; show c = 0; omega
  | k + 1, c, acc, h, h2 => by
    unfold dg
    refine dg_left k _ _ (Int.ediv_nonneg h (by decide)) ?_
    rw [Int.pow_succ] at h2
    exact Int.ediv_lt_of_lt_mul (by decide) h2
theorem dg_len : ∀ (k : Nat) (c : Int) (acc : List Int), (dg k c acc).1.length = k + acc.length
  | 0, c, acc => by simp [dg]
  | k + 1, c, acc => by unfold dg; rw [dg_len]; simp; omega
theorem dg_small : ∀ (k : Nat) (c : Int) (acc : List Int), (∀ d ∈ acc, 0 ≤ d ∧ d < 27) → ∀ d ∈ (dg k c acc).1, 0 ≤ d ∧ d < 27
  | 0, c, acc, h => h
  | k + 1, c, acc, h => by
    unfold dg
    refine dg_small k _ _ fun d hd => ?_
    rcases List.mem_cons.mp hd with rfl | hd
    · exact ⟨Int.emod_nonneg _ (by decide), Int.emod_lt_of_pos _ (by decide)⟩
    · exact h d hd
/-- what the law asks of a name's cell: the same -/
theorem own_nameOf (c : Int) : (if (dg 8 c []).2 = 0 ∧ letters c ≠ [] ∧ cellOf (letters c) = c then some (letters c) else none) = nameOf c := by
  unfold nameOf
  by_cases h : letters c ≠ [] ∧ cellOf (letters c) = c
  · rw [if_pos h, if_pos]
    refine ⟨?_, h⟩
    have hn := letters_name h.1
    unfold nameB at hn
    simp only [Bool.and_eq_true, decide_eq_true_eq] at hn
    have := cellOf_lt hn.2
    rw [h.2] at this
    exact dg_left 8 c [] this.1 (by have e : (27 : Int) ^ 8 = 282429536481 := by decide
                                    rw [e]; exact this.2)
  · rw [if_neg h, if_neg (fun z => h z.2)]
end Nm

namespace Rf
open PySem L2 Nm

/-! ### texts, walks, fields: what a goal is led to -/
theorem alpha_cps : ("abcdefghijklmnopqrstuvwxyz" : Str).cps.toList = (List.range 26).map (· + 97) := by decide +kernel
theorem mem_alpha (c : Nat) : decide (c ∈ ("abcdefghijklmnopqrstuvwxyz" : Str).cps.toList) = letB c := by
  rw [alpha_cps]
  unfold letB
  rw [← Bool.decide_and]
  apply decide_eq_decide.mpr
  rw [List.mem_map]
  constructor
  · rintro ⟨i, hi, rfl⟩
    have := List.mem_range.mp hi
    omega
  · intro h
    exact ⟨c - 97, List.mem_range.mpr (by omega), by omega⟩
theorem alpha_ix : ∀ k : Fin 26, Builtin.Str.occurrences ("abcdefghijklmnopqrstuvwxyz" : Str) ⟨#[97 + k.val]⟩ 0 ("abcdefghijklmnopqrstuvwxyz" : Str).length 1 = [k.val] := by decide +kernel
section
variable {bs : List Nat} {S : Store} {k : Bool} {i j : Int} {a b : Str} {xs ys : List PyData} {Q : W → Store → Prop} {P : W → Prop}
theorem in_sign {neg : Bool} {c : Nat} (q : Q (.dat (.bool (decide (c ∈ b.cps.toList) != neg))) S) : wpo (inAF neg bs (.dat (.str ⟨#[c]⟩)) (.dat (.str b)) S) Q := q
theorem in_alpha {c : Nat} (q : Q (.dat (.bool (letB c))) S) : wpo (inAF false bs (.dat (.str ⟨#[c]⟩)) (.dat (.str ("abcdefghijklmnopqrstuvwxyz" : Str))) S) Q := by
  refine in_sign ?_
  rw [mem_alpha]
  cases h : letB c <;> rw [h] at q <;> exact q
theorem sind_alpha {c : Nat} (h : letB c = true) (q : Q (.dat (.int ((c : Int) - 97))) S) : wpo (sindF bs (.dat (.str ("abcdefghijklmnopqrstuvwxyz" : Str))) [.dat (.str ⟨#[c]⟩)] S) Q := by
  simp only [letB, Bool.and_eq_true, decide_eq_true_eq] at h
  have e := alpha_ix ⟨c - 97, by omega⟩
  have e2 : 97 + (c - 97) = c := by omega
  simp only [e2] at e
  unfold sindF
  simp only [e]
  have e3 : (((c - 97 : Nat)) : Int) = (c : Int) - 97 := by omega
  show Q (.dat (.int ((c - 97 : Nat) : Int))) S
  rw [e3]; exact q
theorem alpha_at {c : Nat} (h : c < 26) : L2.atI ("abcdefghijklmnopqrstuvwxyz" : Str).cps.toList (c : Int) = some (c + 97) := by
  refine atI_ofNat ?_
  rw [alpha_cps, List.getElem?_map, List.getElem?_range h]; rfl
theorem ix_alpha {c : Int} (h0 : 0 ≤ c) (h : c < 26) (q : Q (.dat (.str (sg [c.toNat + 97]))) S) : wpo (ixF bs (.dat (.str ("abcdefghijklmnopqrstuvwxyz" : Str))) (.dat (.int c)) S) Q := by
  obtain ⟨n, rfl⟩ := Int.eq_ofNat_of_zero_le h0
  exact ix_str (by decide +kernel) (alpha_at (by omega)) q
theorem str_sg {z : Str} : z = sg z.cps.toList := (sg_list z).symm
theorem add_sg {l m : List Nat} (h : l.length + m.length ≤ 100000) (q : Q (.dat (.str (sg (l ++ m)))) S) : wpo (addF k bs (.dat (.str (sg l))) (.dat (.str (sg m))) S) Q := by
  refine add_str (by simpa using h) ?_
  rw [sg_app]; exact q
theorem len_sg {l : List Nat} (h : l.length ≤ 100000) (q : Q (.dat (.int l.length)) S) : wpo (un lenW bs [.dat (.str (sg l))] S) Q := by
  refine len_str (by simpa using h) ?_
  simpa using q
theorem ix_sg {l : List Nat} {c : Nat} (h : l.length ≤ 100000) (hi : L2.atI l i = some c) (q : Q (.dat (.str (sg [c]))) S) : wpo (ixF bs (.dat (.str (sg l))) (.dat (.int i)) S) Q :=
  ix_str (by simpa using h) (by simpa using hi) q
/-! what a walk gets -/
variable {Qi : Iter → Prop}
theorem its_str {z : Str} (q : Qi (.items (z.cps.toList.map fun c => .dat (.str ⟨#[c]⟩)))) : ∃ it, iterS S (.dat (.str z)) = some it ∧ Qi it := ⟨_, rfl, q⟩
theorem its_tup (q : Qi (.items (xs.map .dat))) : ∃ it, iterS S (.dat (.tuple xs)) = some it ∧ Qi it := ⟨_, rfl, q⟩
theorem its_lst (q : Qi (.items (xs.map .dat))) : ∃ it, iterS S (.dat (.list xs)) = some it ∧ Qi it := ⟨_, rfl, q⟩
theorem its_tw {ws : List W} (q : Qi (.items ws)) : ∃ it, iterS S (.tw ws) = some it ∧ Qi it := ⟨_, rfl, q⟩
theorem its_lw {ws : List W} (q : Qi (.items ws)) : ∃ it, iterS S (.lw ws) = some it ∧ Qi it := ⟨_, rfl, q⟩
theorem its_loc {n : Nat} {ws : List W} (h : S[n]? = some (.lst ws)) (q : Qi (.cell n)) : ∃ it, iterS S (.loc n) = some it ∧ Qi it := ⟨_, by simp only [iterS, iterA, iterT, tupOf, iterL, h, Option.map_none], q⟩
theorem wp_itS {env : Env} {m : M W} {Q : Iter → Store → Prop} {E : EK} (h : (m bs env S).wp (fun w S1 => ∃ it, iterS S1 w = some it ∧ Q it S1) E) : (mItS m bs env S).wp Q E := bind_wp (h.imp fun w S1 ⟨it, e, q⟩ => by
  show Out.wp (match iterS S1 w with | some it => Out.ok it S1 | none => .stuck) Q E
  rw [e]; exact q)
theorem wp_conW {env : Env} {w : W} {Q : W → Store → Prop} {E : EK} (q : Q w S) : (mConW w bs env S).wp Q E := q
/-! texts joined -/
theorem joinL_nil : ∀ l : List (List Nat), TL.joinL [] l = l.flatten
  | [] => rfl
  | [p] => by simp [TL.joinL]
  | p :: q :: r => by
    show p ++ ([] ++ TL.joinL [] (q :: r)) = _
    rw [joinL_nil (q :: r)]; simp
theorem join_empty (l : List Str) : Txt.join (sg []) l = sg (l.map fun z => z.cps.toList).flatten := by
  have := TL.tl_join (sg []) l
  have e : TL.tl (sg []) = [] := by simp [TL.tl]
  rw [e, joinL_nil] at this
  rw [← sg_list (Txt.join (sg []) l), TL.join_eq]
  exact congrArg sg this
end
theorem join_sgs {bs : List Nat} {S : Store} {Q : W → Store → Prop} {ls : List (List Nat)} (h : ls.flatten.length ≤ 100000) (q : Q (.dat (.str (sg ls.flatten))) S) : wpo (joinF bs (.dat (.str (sg []))) [.dat (.list (ls.map fun l => .str (sg l)))] S) Q := by
  have e1 : (seqOf S (.dat (.list (ls.map fun l => PyData.str (sg l))))).bind strsW = some (ls.map sg) := by
    show strsW ((ls.map fun l => PyData.str (sg l)).map W.dat) = _
    clear h q
    induction ls with
    | nil => rfl
    | cons l ls ih => simp only [List.map_cons, strsW, ih, Option.map_some]
  have e2 : (ls.map sg).map (·.length) = ls.map (·.length) := by simp [Function.comp_def]
  have e3 : ((ls.map sg).map (·.length)).sum + (ls.map sg).length * (sg []).length ≤ 16777216 := by
    rw [e2, ← List.length_flatten]
    have : (sg []).length = 0 := by simp
    rw [this]; omega
  unfold joinF
  simp only [e1]
  rw [if_pos e3, join_empty]
  have e4 : ((ls.map sg).map fun z => z.cps.toList) = ls := by simp [Function.comp_def]
  rw [e4]; exact q
theorem tyS {z : Str} {S : Store} {A : Prop} (h : A) : wTy .str (.dat (.str z)) S = true ∧ A := ⟨rfl, h⟩
theorem tyLd {ds : List PyData} {S : Store} {A : Prop} (h : A) : wTy .lst (.dat (.list ds)) S = true ∧ A := ⟨rfl, h⟩
theorem tyLc {n : Nat} {ws : List W} {S : Store} {A : Prop} (hs : S[n]? = some (.lst ws)) (h : A) : wTy .lst (.loc n) S = true ∧ A := ⟨ty_loc hs, h⟩
theorem ifNT {A B : Prop} (h : B) : ((!true) = true → A) ∧ ((!true) = false → B) := ⟨fun z => (nomatch z), fun _ => h⟩
theorem ifNF {A B : Prop} (h : A) : ((!false) = true → A) ∧ ((!false) = false → B) := ⟨fun _ => h, fun z => (nomatch z)⟩
theorem in_twT {ws : List W} {ds : List PyData} {z : Str} {bs : List Nat} {S : Store} {Q : W → Store → Prop} (h : allDat ws = some ds) (hp : PyData.plainAll ds = true) (e : (ds.any fun d => PyData.eqv d (.str z)) = true) (q : Q (.dat (.bool true)) S) : wpo (inAF false bs (.dat (.str z)) (.tw ws) S) Q := by
  have : inF false bs (.dat (.str z)) (.tw ws) S = some (.bl true, S) := by
    unfold inF
    have hv : viewD S (.tw ws) = some (.tuple ds) := by rw [allDat_eq h]; simp only [viewD, viewW, viewAll_dat, Option.map_some]
    have hd : viewD S (.dat (.str z)) = some (.str z) := rfl
    rw [hv, hd]
    show (if _ ∧ _ ∧ _ then _ else _) = _
    rw [if_pos ⟨rfl, hp, by simp [PyData.depth]⟩, e]; rfl
  unfold inAF
  rw [this]; exact q
theorem in_twF {ws : List W} {ds : List PyData} {z : Str} {bs : List Nat} {S : Store} {Q : W → Store → Prop} (h : allDat ws = some ds) (hp : PyData.plainAll ds = true) (e : (ds.any fun d => PyData.eqv d (.str z)) = false) (q : Q (.dat (.bool false)) S) : wpo (inAF false bs (.dat (.str z)) (.tw ws) S) Q := by
  have : inF false bs (.dat (.str z)) (.tw ws) S = some (.bl false, S) := by
    unfold inF
    have hv : viewD S (.tw ws) = some (.tuple ds) := by rw [allDat_eq h]; simp only [viewD, viewW, viewAll_dat, Option.map_some]
    have hd : viewD S (.dat (.str z)) = some (.str z) := rfl
    rw [hv, hd]
    show (if _ ∧ _ ∧ _ then _ else _) = _
    rw [if_pos ⟨rfl, hp, by simp [PyData.depth]⟩, e]; rfl
  unfold inAF
  rw [this]; exact q
/-! classes -/
def FL (cs : List Nat) (f : Str) (Q : W → Store → Prop) (w : W) (S : Store) : Prop := ∃ n c fs v, w = .loc n ∧ S[n]? = some (.ins c fs) ∧ c ∈ cs ∧ fs.lookup f = some v ∧ Q v.weak S
def FA (cs : List Nat) (f : Str) (K : W → Store → Prop) (w : W) (S : Store) : Prop := ∃ u, fldOf cs f S w = some u ∧ K u S
def SF (cs : List Nat) (f : Str) (bs : List Nat) (P : Store → Prop) (x y : W) (S : Store) : Prop := ∃ S3, setFld cs f bs x y S = some S3 ∧ P S3
def ME (c : Nat) (m : Str) (K : Nat → Store → Prop) (w : W) (S : Store) : Prop := ∃ n fs, w = .loc n ∧ S[n]? = some (.ins c fs) ∧ fs.lookup m = none ∧ K n S
theorem wp_fld {cs : List Nat} {f : Str} {m : M W} {bs : List Nat} {env : Env} {S : Store} {Q : W → Store → Prop} {E : EK} (h : (m bs env S).wp (fun w S1 => FL cs f Q w S1) E) : (mFld cs f m bs env S).wp Q E := bind_wp (h.imp fun w S1 ⟨n, c, fs, v, e, hn, hc, hl, q⟩ => by
  subst e
  simp only [hn, if_pos hc, hl]
  exact q)
theorem fl_d {cs : List Nat} {f : Str} {n c : Nat} {fs : List (Str × W)} {d : PyData} {S : Store} {Q : W → Store → Prop} (hn : S[n]? = some (.ins c fs)) (hc : c ∈ cs) (hl : fs.lookup f = some (.dat d)) (q : Q (.dat d) S) : FL cs f Q (.loc n) S := ⟨n, c, fs, _, rfl, hn, hc, hl, q⟩
theorem fl_l {cs : List Nat} {f : Str} {n c k : Nat} {fs : List (Str × W)} {S : Store} {Q : W → Store → Prop} (hn : S[n]? = some (.ins c fs)) (hc : c ∈ cs) (hl : fs.lookup f = some (.loc k)) (q : Q (.loc k) S) : FL cs f Q (.loc n) S := ⟨n, c, fs, _, rfl, hn, hc, hl, q⟩
theorem wp_sFld {cs : List Nat} {f : Str} {mo mv : M W} {bs : List Nat} {env : Env} {S : Store} {N : Env → Store → Prop} {R : W → Store → Prop} {B C : Env → Store → Prop} {E : Nat → List W → Env → Store → Prop}
    (h : (mv bs env S).wp (fun y S1 => (mo bs env S1).wp (fun x S2 => SF cs f bs (N env) x y S2) fun c ws S1 => E c ws env S1) fun c ws S1 => E c ws env S1) : (sFld cs f mo mv bs env S).wp N R B C E := so_wp (h.imp fun y S1 h1 => so_wp (h1.imp fun x S2 ⟨S3, e, q⟩ => by
  show SO.wp (match setFld cs f bs x y S2 with | some S3 => SO.nx env S3 | none => .stuck) N R B C E
  rw [e]; exact q))
theorem sf_d {cs : List Nat} {f : Str} {bs : List Nat} {n c : Nat} {fs : List (Str × W)} {d : PyData} {S : Store} {P : Store → Prop} (hn : S[n]? = some (.ins c fs)) (hc : c ∈ cs) (hl : fs.length < 900) (q : P (S.set n (.ins c (putFW f (.dat d) fs)))) : SF cs f bs P (.loc n) (.dat d) S := by
  refine ⟨_, ?_, q⟩
  unfold setFld
  simp only [hn]
  rw [if_pos ⟨hc, hl, may_d _ _ _⟩]
theorem wp_sFldA {cs : List Nat} {f : Str} {op : Op2} {mo mv : M W} {bs : List Nat} {env : Env} {S : Store} {N : Env → Store → Prop} {R : W → Store → Prop} {B C : Env → Store → Prop} {E : Nat → List W → Env → Store → Prop}
    (h : (mo bs env S).wp (fun x S1 => FA cs f (fun u S1 => (mv bs env S1).wp (fun y S2 => wpo (op bs u y S2) fun z S3 => SF cs f bs (N env) x z S3) fun c ws S1 => E c ws env S1) x S1) fun c ws S1 => E c ws env S1) : (sFldA cs f op mo mv bs env S).wp N R B C E := so_wp (h.imp fun x S1 ⟨u, e, h1⟩ => by
  unfold fldA
  rw [e]
  refine so_wp (h1.imp fun y S2 h2 => ?_)
  cases hz : op bs u y S2 with
  | none => rw [hz] at h2; exact h2.elim
  | some r =>
    obtain ⟨z, S3⟩ := r
    rw [hz] at h2
    obtain ⟨S4, e4, q⟩ := (show ∃ S4, setFld cs f bs x z S3 = some S4 ∧ N env S4 from h2)
    simp only [e4]; exact q)
theorem fa_mk {cs : List Nat} {f : Str} {n c : Nat} {fs : List (Str × W)} {u : W} {S : Store} {K : W → Store → Prop} (hn : S[n]? = some (.ins c fs)) (hc : c ∈ cs) (hl : fs.lookup f = some u) (q : K u S) : FA cs f K (.loc n) S := by
  refine ⟨u, ?_, q⟩
  unfold fldOf
  simp only [hn]
  rw [if_pos hc]; exact hl
theorem wp_meth {c : Nat} {m : Str} {ff : FnT} {mo : M W} {ms : M (List W)} {bs : List Nat} {env : Env} {S : Store} {Q : W → Store → Prop} {E : EK} (h : (mo bs env S).wp (fun w S1 => ME c m (fun n S1 => (ms bs env S1).wp (fun ws S2 => (ff bs (.loc n :: ws) S2).wp Q E) E) w S1) E) : (mMeth c m ff mo ms bs env S).wp Q E := bind_wp (h.imp fun w S1 ⟨n, fs, e, hn, hl, h1⟩ => by
  subst e
  unfold methB
  simp only [hn, hl, and_self, if_true]
  exact bind_wp h1)
theorem me_mk {c : Nat} {m : Str} {n : Nat} {fs : List (Str × W)} {S : Store} {K : Nat → Store → Prop} (hn : S[n]? = some (.ins c fs)) (hl : fs.lookup m = none) (q : K n S) : ME c m K (.loc n) S := ⟨n, fs, rfl, hn, hl, q⟩
theorem iadd_int {bs : List Nat} {S : Store} {i j : Int} {Q : W → Store → Prop} (q : Q (.dat (.int (i + j))) S) : wpo (addIF bs (.dat (.int i)) (.dat (.int j)) S) Q := q
theorem rt_len {S' : Store} {k : Nat} {Q : W → Store → Prop} {d : PyData} (hl : S'.length = k) (q : Q (.dat d) S') : RT k Q (.dat d) S' := rt_dat (by rw [List.take_of_length_le (by omega)]; exact q)
theorem wp_make {c : Nat} {ff : FnT} {ms : M (List W)} {bs : List Nat} {env : Env} {S : Store} {Q : W → Store → Prop} {E : EK} (h : (ms bs env S).wp (fun ws S1 => (ff bs (.loc S1.length :: ws) (S1 ++ [.ins c []])).wp (fun r S2 => r = .dat .none ∧ Q (.loc S1.length) S2) E) E) : (mMake c ff ms bs env S).wp Q E := bind_wp (h.imp fun ws S1 h1 => bind_wp (h1.imp fun r S2 ⟨e, q⟩ => by subst e; exact q))
theorem wp_fnN {n p : Nat} {m : MS} {ws : List W} {bs : List Nat} {S : Store} {Q : W → Store → Prop} {E : EK} (hl : ws.length = p)
    (h : (m bs (startE n ws) S).wp (fun _ S1 => Q (.dat .none) S1) Q (fun _ _ => False) (fun _ _ => False) fun c ws _ S1 => E c ws S1) : (fnN n p m bs ws S).wp Q E := by
  unfold fnN
  rw [if_pos hl]
  generalize m bs (startE n ws) S = o at h
  cases o <;> exact h
theorem empty_sg : (("" : Str)) = sg [] := by decide +kernel
/-! stores -/
theorem rt_app {S T : Store} {Q : W → Store → Prop} {d : PyData} (q : Q (.dat d) S) : RT S.length Q (.dat d) (S ++ T) := rt_dat (by rw [List.take_left']; exact q; rfl)
theorem at_app (S : Store) (c : Cell) (T : Store) : (S ++ c :: T)[S.length]? = some c := by simp
theorem at_app1 (S : Store) (c : Cell) : (S ++ [c])[S.length]? = some c := by simp
theorem set_app (S : Store) (c d : Cell) : (S ++ [c]).set S.length d = S ++ [d] := by simp
theorem at_old {S : Store} {n : Nat} {c : Cell} (h : S[n]? = some c) (T : Store) : (S ++ T)[n]? = some c := by rw [List.getElem?_append_left (List.getElem?_eq_some_iff.mp h).1]; exact h
theorem ins0_loc {bs : List Nat} {S : Store} {n : Nat} {ws : List W} {d : PyData} {Q : W → Store → Prop} (h : S[n]? = some (.lst ws)) (hl : ws.length < 100000) (q : Q (.dat .none) (S.set n (.lst (.dat d :: ws)))) : wpo (insF bs (.loc n) [.dat (.int 0), .dat d] S) Q := by
  unfold insF
  simp only [h]
  rw [if_pos ⟨hl, may_d _ _ _, by decide, by decide⟩]
  exact q
theorem wp_compC {α : Type} {bs : List Nat} {E : EK} {n : Nat} {f : α → W} {xs : List α} {t : TM} {c : M Bool} {e : M W} {env : Env} {S : Store} {Q : List W → Store → Prop} (g : α → Option W) (hS : S[n]? = some (.lst (xs.map f))) (hl : xs.length < 100000)
    (step : ∀ x ∈ xs, (t (f x) bs env S).wp (fun env1 S1 => (c bs env1 S1).wp (fun b S2 => (b = true → (e bs env1 S2).wp (fun y S3 => g x = some y ∧ S3 = S) NoE) ∧ (b = false → g x = none ∧ S2 = S)) NoE) NoE)
    (q : Q (xs.filterMap g) S) : (compG (.cell n) t c e (Iter.cell n).fuel 0 [] bs env S).wp Q E := by
  refine wp_compG (f := f) (xs := xs) (fun pre acc S' => acc = pre.filterMap g ∧ S' = S) (fun pre post acc S' hx ⟨_, h2⟩ => ?_) (fun pre x post acc S' hx ⟨h1, h2⟩ => ?_) (fun acc S' ⟨h1, h2⟩ => by subst h1 h2; exact q) _ [] xs [] S rfl (by simp [Iter.fuel]; omega) ⟨rfl, rfl⟩
  · subst h2
    show (match S'[n]? with | some (.lst ws) => some ws[pre.length]? | _ => none : Option (Option W)) = _
    rw [hS]
    exact next_of (S := S') hx
  · subst h2
    have hm : x ∈ xs := by rw [hx]; simp
    refine (step x hm).imp fun env1 S1 h3 => h3.imp fun b S2 h4 => ⟨fun hb => (h4.1 hb).imp fun y S3 ⟨h5, h6⟩ => ⟨?_, ?_, h6⟩, fun hb => ⟨?_, (h4.2 hb).2⟩⟩
    · have := List.length_filterMap_le g pre
      have h7 := congrArg List.length hx
      simp at h7
      rw [h1]; omega
    · rw [h1]; simp [h5]
    · rw [h1]; simp [(h4.2 hb).1]
/-! ranges -/
theorem rangeW_map (n : Int) : rangeW 0 n = (List.range n.toNat).map fun (k : Nat) => W.dat (.int (k : Int)) := by
  unfold rangeW
  rw [show (n - 0).toNat = n.toNat by omega]
  apply List.map_congr_left
  intro k _
  show W.dat (.int (0 + (k : Int))) = _
  rw [Int.zero_add]
theorem range_at {n k : Nat} {post : List Nat} {pre : List Nat} (h : List.range n = pre ++ k :: post) : pre = List.range pre.length ∧ k = pre.length ∧ pre.length < n := by
  have hl := congrArg List.length h
  simp at hl
  have hp : pre = (List.range n).take pre.length := by rw [h]; simp
  rw [List.take_range, Nat.min_eq_left (by omega)] at hp
  have hk : (List.range n)[pre.length]? = some k := by rw [h]; simp
  rw [List.getElem?_range (by omega)] at hk
  cases hk
  exact ⟨hp, rfl, by omega⟩
section
variable {bs : List Nat} {N : Env → Store → Prop} {R : W → Store → Prop} {B C : Env → Store → Prop} {E : Nat → List W → Env → Store → Prop}
theorem wp_range {n : Int} {bd : W → MS} {env : Env} {S : Store} (I : Nat → Env → Store → Prop) (h0 : I 0 env S) (step : ∀ (k : Nat) (env : Env) (S : Store), (k : Int) < n → I k env S → (bd (.dat (.int (k : Int))) bs env S).wp (I (k + 1)) R N (I (k + 1)) E) (done : ∀ env S, I n.toNat env S → N env S) :
    (forG (.items (rangeW 0 n)) bd (Iter.items (rangeW 0 n)).fuel 0 bs env S).wp N R B C E := by
  rw [rangeW_map]
  refine wp_items (fun pre => I pre.length) h0 (fun pre x post env S hx h => ?_) (fun env S h => done env S (by simpa using h))
  obtain ⟨_, rfl, hl⟩ := range_at hx
  have := step pre.length env S (by omega) h
  simpa using this
theorem wp_compRange {n : Int} {t : TM} {c : M Bool} {e : M W} {env : Env} {S : Store} {Q : List W → Store → Prop} {E' : EK} (I : Nat → List W → Store → Prop) (h0 : I 0 [] S)
    (step : ∀ (k : Nat) (acc : List W) (S : Store), (k : Int) < n → I k acc S → (t (.dat (.int (k : Int))) bs env S).wp (fun env1 S1 => (c bs env1 S1).wp (fun b S2 => (b = true → (e bs env1 S2).wp (fun y S3 => acc.length < 100000 ∧ I (k + 1) (acc ++ [y]) S3) NoE) ∧ (b = false → I (k + 1) acc S2)) NoE) NoE)
    (done : ∀ acc S, I n.toNat acc S → Q acc S) : (compG (.items (rangeW 0 n)) t c e (Iter.items (rangeW 0 n)).fuel 0 [] bs env S).wp Q E' := by
  rw [rangeW_map]
  refine wp_compG (f := fun (k : Nat) => W.dat (.int (k : Int))) (xs := List.range n.toNat) (fun pre => I pre.length) (fun pre post acc S hx _ => next_of hx) (fun pre x post acc S hx h => ?_) (fun acc S h => done acc S (by simpa using h)) _ [] (List.range n.toNat) [] S rfl (by simp [Iter.fuel]) h0
  obtain ⟨_, rfl, hl⟩ := range_at hx
  have := step pre.length acc S (by omega) h
  simpa using this
end
end Rf
local macro_rules
  | `(tactic| array_get_dec) => `(tactic| first
    | (with_reducible refine Rf.wp_itS ?_)
    | (with_reducible refine Rf.its_str ?_)
    | (with_reducible refine Rf.its_tup ?_)
    | (with_reducible refine Rf.its_lst ?_)
    | (with_reducible refine Rf.its_tw ?_)
    | (with_reducible refine Rf.its_lw ?_)
    | (with_reducible refine Rf.wp_conW ?_)
    | (with_reducible refine Rf.wp_mt ?_)
    | (with_reducible refine Rf.tyS ?_)
    | (with_reducible refine Rf.tyLd ?_)
    | (with_reducible refine Rf.tyLc (by assumption) ?_)
    | (with_reducible refine Rf.in_alpha ?_)
    | (with_reducible refine Rf.ifNT ?_)
    | (with_reducible refine Rf.wp_fld ?_)
    | (with_reducible refine Rf.wp_sFld ?_)
    | (with_reducible refine Rf.wp_sFldA ?_)
    | (with_reducible refine Rf.wp_meth ?_)
    | (with_reducible refine Rf.iadd_int ?_)
    | (with_reducible refine Rf.rt_app ?_)
    | ((with_reducible refine Rf.exRng1 ?_ ?_); omega)
    | ((with_reducible refine Rf.exRng2 ?_ ?_); omega)
    | (with_reducible refine Rf.ifNF ?_)
    | dsimp only [Rf.strB, Rf.intB, Rf.boolB, Rf.tupB, Rf.dicB, Rf.noneB])

namespace Rf
open PySem L2 Nm

/-! ### comprehensions of two generators -/
section
variable {α : Type} {bs : List Nat} {env : Env} {S : Store} {E : EK}
theorem wp_compCopy {ds : List PyData} {acc : List W} {i : Nat} {Q : List W → Store → Prop} (hi : i < env.length) (hl : acc.length + ds.length ≤ 100000) (q : Q (acc ++ ds.map .dat) S) : (compG (.items (ds.map W.dat)) (tName i) mYes (mVar i) (Iter.items (ds.map W.dat)).fuel 0 acc bs env S).wp Q E := by
  refine wp_compG (f := W.dat) (xs := ds) (fun pre a S' => a = acc ++ pre.map .dat ∧ S' = S) (fun pre post _ S hx _ => next_of hx) (fun pre x post a S' hx ⟨h1, h2⟩ => ?_) (fun a S' ⟨h1, h2⟩ => by subst h1 h2; exact q) _ [] ds acc S rfl (by simp [Iter.fuel]) ⟨by simp, rfl⟩
  subst h2
  have hx2 := congrArg List.length hx
  simp at hx2
  refine wp_name (wp_yes ⟨fun _ => ?_, fun z => (nomatch z)⟩)
  refine wp_varD (List.getElem?_set_self hi) ⟨?_, ?_, rfl⟩
  · rw [h1, List.length_append, List.length_map]; omega
  · rw [h1, List.map_append, List.append_assoc]; rfl
theorem wp_comp2 {k : Bool} {mi mi1 : M Iter} {vs vs1 : List Nat} {t t1 : TM} {c c1 : M Bool} {e : M W} {Q : W → Store → Prop} (h : (mi bs env S).wp (fun it S1 => (compG2 it t c mi1 vs1 t1 c1 e it.fuel 0 [] bs (wipeE env vs) S1).wp (fun ws S2 => NL k Q ws S2) E) E) : (mComp2 k mi vs t c mi1 vs1 t1 c1 e bs env S).wp Q E :=
  bind_wp (h.imp fun it S1 h1 => bind_wp h1)
/-- names alone, the inner items copied, nothing changed -/
theorem wp_comp2G {f : α → W} {i i1 : Nat} {mi1 : M Iter} (g : α → List PyData) {xs : List α} (hl : (xs.map g).flatten.length ≤ 100000) (hi : i1 < env.length)
    (step : ∀ x ∈ xs, (mi1 bs (env.set i (some (f x))) S).wp (fun it1 S1 => it1 = .items ((g x).map .dat) ∧ S1 = S) NoE) {Q : List W → Store → Prop} (q : Q ((xs.map g).flatten.map .dat) S) :
    ∀ (fuel : Nat) (pre post : List α), xs = pre ++ post → post.length < fuel → (compG2 (.items (xs.map f)) (tName i) mYes mi1 [i1] (tName i1) mYes (mVar i1) fuel pre.length ((pre.map g).flatten.map .dat) bs env S).wp Q E
  | 0, pre, post, hx, hf => by omega
  | fuel + 1, pre, post, hx, hf => by
    unfold compG2
    have hn : (Iter.items (xs.map f)).next pre.length S = some (post.head?.map f) := next_of hx
    simp only [hn]
    cases post with
    | nil =>
      rw [List.append_nil] at hx
      subst hx
      exact q
    | cons x post =>
      have hm : x ∈ xs := by rw [hx]; simp
      refine bindC_wp (wp_name (bindC_wp (wp_yes ?_)))
      rw [if_pos rfl]
      refine bindC_wp ((step x hm).imp fun it1 S1 ⟨h1, h2⟩ => ?_)
      rw [h1, h2]
      have e1 : (((pre ++ [x]).map g).flatten).length ≤ 100000 := by
        have : ((xs.map g).flatten).length = (((pre ++ [x]).map g).flatten).length + ((post.map g).flatten).length := by rw [hx]; simp [Nat.add_assoc]
        omega
      refine bindC_wp (wp_compCopy ?_ ?_ ?_)
      · simp only [wipeE, List.length_set]; exact hi
      · rw [List.map_append, List.flatten_append, List.length_append] at e1
        rw [List.length_map]
        simpa using e1
      · have := wp_comp2G g hl hi step q fuel (pre ++ [x]) post (by simp [hx]) (by simp at hf; omega)
        simpa using this
theorem wp_comp2P {f : α → W} {xs : List α} {i i1 : Nat} {mi1 : M Iter} (g : α → List PyData) (hl : (xs.map g).flatten.length ≤ 100000) (hi : i1 < env.length)
    (step : ∀ x ∈ xs, (mi1 bs (env.set i (some (f x))) S).wp (fun it1 S1 => it1 = .items ((g x).map .dat) ∧ S1 = S) NoE) {Q : List W → Store → Prop} (q : Q ((xs.map g).flatten.map .dat) S) :
    (compG2 (.items (xs.map f)) (tName i) mYes mi1 [i1] (tName i1) mYes (mVar i1) (Iter.items (xs.map f)).fuel 0 [] bs env S).wp Q E :=
  wp_comp2G g hl hi step q _ [] xs rfl (by simp [Iter.fuel])
end
/-! ### others -/
section
variable {bs : List Nat} {env : Env} {S : Store} {E : EK}
theorem wp_conIx {ys : List Str} {ms : M (List W)} {Q : W → Store → Prop} (h : (ms bs env S).wp (fun ws S1 => ∃ z j, ws = [.dat (.str z)] ∧ ys.findIdx? (fun y => y == z) = some j ∧ Q (.dat (.int (j : Nat))) S1) E) : (mConIx ys ms bs env S).wp Q E := bind_wp (h.imp fun ws S1 ⟨z, j, e1, e2, q⟩ => by
  subst e1
  simp only [e2]
  exact q)
theorem lidx {xs : List PyData} {ys : List Str} {z : Str} {j : Nat} {Q : W → Store → Prop} (h : strsW (xs.map .dat) = some ys) (e : ys.findIdx? (fun y => y == z) = some j) (q : Q (.dat (.int j)) S) : wpo (lidxF bs (.dat (.list xs)) [.dat (.str z)] S) Q := by
  have h1 : (lstOf S (.dat (.list xs))).bind strsW = some ys := h
  unfold lidxF
  simp only [h1, e]
  exact q
theorem pop_loc {n k : Nat} {us : List W} {w : W} {i : Int} {Q : W → Store → Prop} (h : S[n]? = some (.lst us)) (hi : -(2 ^ 63) ≤ i ∧ i < 2 ^ 63) (e : seqIndex? i us.length = some k) (g : us[k]? = some w) (q : Q w (S.set n (.lst (us.eraseIdx k)))) : wpo (popF bs (.loc n) [.dat (.int i)] S) Q := by
  unfold popF
  simp only [h, if_pos hi, e, g]
  exact q
theorem ints_of (ns : List Int) : intsW ((ns.map PyData.int).map W.dat) = some ns := by
  induction ns with
  | nil => rfl
  | cons n ns ih => simp only [List.map_cons, intsW, ih, Option.map_some]
theorem maxT_tup {ns : List Int} {m : Int} {Q : W → Store → Prop} (h : ns.max? = some m) (q : Q (.dat (.int m)) S) : wpo (un maxTF bs [.dat (.tuple (ns.map .int))] S) Q := by
  have e : maxTF S (.dat (.tuple (ns.map PyData.int))) = some (.dat (.int m)) := by
    show (match (some ((ns.map PyData.int).map W.dat)).bind intsW with | some ns => (ns.max?).map W.int | none => none) = _
    simp only [Option.bind_some, ints_of, h]; rfl
  unfold un
  simp only [e]
  exact q
theorem wp_backT {m : M W} {Q : W → Store → Prop} {k : Bool} (h : (m bs env S).wp (fun w S1 => ∃ ds, w = .dat (.tuple ds) ∧ Q (.dat (.tuple ds.reverse)) S1) E) : (mBack k m bs env S).wp Q E := bind_wp (h.imp fun w S1 ⟨ds, e, q⟩ => by
  subst e
  show Out.wp (.ok (mkTup ((ds.map W.dat).reverse)) S1) Q E
  have : mkTup ((ds.map W.dat).reverse) = .dat (.tuple ds.reverse) := by rw [← List.map_reverse]; exact mkTup_dat _
  rw [this]; exact q)
end
end Rf
local macro_rules
  | `(tactic| array_get_dec) => `(tactic| first
    | (with_reducible refine Rf.wp_comp2 ?_)
    | (with_reducible refine Rf.wp_conIx ?_)
    | (with_reducible refine Rf.wp_backT ?_))

namespace Rf
open PySem L2 Nm

/-! ### draws: three whole numbers in a cell -/
def Vat (S : Store) (n : Nat) : Prop := ∃ a b c : Int, S[n]? = some (.lst [.int a, .int b, .int c])
/-- the same store but for the draws -/
structure Drawn (n : Nat) (S S' : Store) : Prop where
  len : S'.length = S.length
  vat : Vat S' n
  rest : ∀ m, m ≠ n → S'[m]? = S[m]?
theorem Drawn.trans {n : Nat} {S S1 S2 : Store} (a : Drawn n S S1) (b : Drawn n S1 S2) : Drawn n S S2 := ⟨b.len.trans a.len, b.vat, fun m h => (b.rest m h).trans (a.rest m h)⟩
theorem Drawn.refl {n : Nat} {S : Store} (h : Vat S n) : Drawn n S S := ⟨rfl, h, fun _ _ => rfl⟩
theorem Vat.lt {S : Store} {n : Nat} (h : Vat S n) : n < S.length := by
  obtain ⟨a, b, c, e⟩ := h
  exact (List.getElem?_eq_some_iff.mp e).1
theorem drawn_set {S : Store} {n : Nat} (h : n < S.length) (a b c : Int) : Drawn n S (S.set n (.lst [.int a, .int b, .int c])) := ⟨by simp, ⟨a, b, c, by rw [List.getElem?_set_self h]⟩, fun m hm => by rw [List.getElem?_set_ne (Ne.symm hm)]⟩
theorem Vat.app {S : Store} {n : Nat} (h : Vat S n) (T : Store) : Vat (S ++ T) n := by
  obtain ⟨a, b, c, e⟩ := h
  exact ⟨a, b, c, at_old e T⟩
/-- cells laid behind: what is drawn leaves them -/
theorem Drawn.split {n : Nat} {S T S' : Store} (hn : n < S.length) (h : Drawn n (S ++ T) S') : ∃ S1, S' = S1 ++ T ∧ Drawn n S S1 := by
  refine ⟨S'.take S.length, ?_, ?_⟩
  · refine List.ext_getElem? fun i => ?_
    by_cases hi : i < S.length
    · rw [List.getElem?_append_left (by rw [List.length_take, h.len, List.length_append]; omega), List.getElem?_take_of_lt hi]
    · rw [h.rest i (by omega)]
      have hl : (S'.take S.length).length = S.length := by rw [List.length_take, h.len, List.length_append]; omega
      rw [List.getElem?_append_right (by omega), List.getElem?_append_right (by omega), hl]
  · obtain ⟨a, b, c, e⟩ := h.vat
    refine ⟨by rw [List.length_take, h.len, List.length_append]; omega, ⟨a, b, c, by rw [List.getElem?_take_of_lt hn]; exact e⟩, fun m hm => ?_⟩
    by_cases hi : m < S.length
    · rw [List.getElem?_take_of_lt hi, h.rest m hm, List.getElem?_append_left hi]
    · rw [List.getElem?_eq_none (by rw [List.length_take]; omega), List.getElem?_eq_none (by omega)]
theorem Drawn.take {n : Nat} {S T S' : Store} (hn : n < S.length) (h : Drawn n (S ++ T) S') : Drawn n S (S'.take S.length) := by
  obtain ⟨S1, rfl, d⟩ := h.split hn
  rw [List.take_left' d.len]; exact d
/-- what an answer is that leaves the store but for the draws -/
def DW (n : Nat) (S : Store) (P : W → Prop) (w : W) (S' : Store) : Prop := P w ∧ Drawn n S S'
theorem sl_loc {bs : List Nat} {S : Store} {n : Nat} {ds : List PyData} {lo hi : Option Int} {Q : W → Store → Prop} (h : S[n]? = some (.lst (ds.map .dat))) (q : Q (.dat (.list (cutW ds lo hi))) S) : wpo (slF false (.loc n) lo hi S) Q := by
  unfold slF
  have e : lstOf S (.loc n) = some (ds.map .dat) := by simp only [lstOf, h]
  have ec : cutW (ds.map W.dat) lo hi = (cutW ds lo hi).map W.dat := by
    unfold cutW
    simp only [List.length_map, List.map_take, List.map_drop]
  simp only [tupOf, e, ec]
  show Q (newL false ((cutW ds lo hi).map W.dat) S).1 _
  show Q (mkLst _) S
  rw [mkLst_dat]; exact q
theorem cut_to {α : Type} (xs : List α) (j : Nat) : cutW xs none (some (j : Int)) = xs.take j := by
  unfold cutW
  rw [HT.sIx_none, HT.sIx_nat, List.drop_zero, Nat.sub_zero]
  by_cases h : j ≤ xs.length
  · rw [Nat.min_eq_left h]
  · rw [Nat.min_eq_right (by omega), List.take_of_length_le (Nat.le_refl _), List.take_of_length_le (by omega)]
theorem cut_from {α : Type} (xs : List α) (i : Nat) : cutW xs (some (i : Int)) none = xs.drop i := by
  unfold cutW
  rw [HT.sIx_none, HT.sIx_nat]
  by_cases h : i ≤ xs.length
  · rw [Nat.min_eq_left h, List.take_of_length_le (by simp)]
  · rw [Nat.min_eq_right (by omega), List.drop_eq_nil_of_le (Nat.le_refl _), List.drop_eq_nil_of_le (i := i) (by omega)]; simp
end Rf

namespace Rf
open PySem L2 Nm

/-! ### try, lambdas: weakest preconditions -/
section
variable {bs : List Nat} {env : Env} {S : Store} {E' : EK} {N : Env → Store → Prop} {R : W → Store → Prop} {B C : Env → Store → Prop} {E : Nat → List W → Env → Store → Prop}
/-- what follows an exception of a try's body -/
def XP (errs : List Nat) (cat : Nat → Nat → Bool) (hs : List Hd) (bs : List Nat) (N : Env → Store → Prop) (R : W → Store → Prop) (B C : Env → Store → Prop) (E : Nat → List W → Env → Store → Prop) (c : Nat) (ws : List W) (e : Env) (S : Store) : Prop :=
  c ∈ errs ∧ SO.wp (match hs.find? fun h => cat c h.c with
    | some h => sSuite h ws bs e S
    | none => .ex c ws e S) N R B C E
theorem wp_try {b : MS} {errs : List Nat} {cat : Nat → Nat → Bool} {hs : List Hd} (h : (b bs env S).wp N R B C (XP errs cat hs bs N R B C E)) : (sTry b errs cat hs bs env S).wp N R B C E := by
  unfold sTry
  generalize b bs env S = o at h
  cases o with
  | nx e S1 => exact h
  | rt w S1 => exact h
  | bk e S1 => exact h
  | ct e S1 => exact h
  | stuck => exact h
  | ex c ws e S1 =>
    show SO.wp (if c ∈ errs then (match hs.find? fun h => cat c h.c with
      | some h => sSuite h ws bs e S1
      | none => .ex c ws e S1) else .stuck) N R B C E
    have h' : XP errs cat hs bs N R B C E c ws e S1 := h
    rw [if_pos h'.1]; exact h'.2
/-- the clause that catches -/
theorem xp_hit {errs : List Nat} {cat : Nat → Nat → Bool} {hs : List Hd} {c : Nat} {ws : List W} {h : Hd} (hc : decide (c ∈ errs) = true) (hf : (hs.find? fun h => cat c h.c) = some h) (q : (sSuite h ws bs env S).wp N R B C E) : XP errs cat hs bs N R B C E c ws env S := by
  refine ⟨of_decide_eq_true hc, ?_⟩
  rw [hf]; exact q
theorem wp_suite {h : Hd} {ws : List W} (q : (h.m ws bs (clrO h.i env) S).wp (fun e S1 => N (clrO h.i e) S1) R (fun e S1 => B (clrO h.i e) S1) (fun e S1 => C (clrO h.i e) S1) (fun _ _ _ _ => False)) : (sSuite h ws bs env S).wp N R B C E := by
  unfold sSuite
  generalize h.m ws bs (clrO h.i env) S = o at q
  cases o with
  | nx e S1 => exact q
  | rt w S1 => exact q
  | bk e S1 => exact q
  | ct e S1 => exact q
  | ex c ws e S1 => exact q.elim
  | stuck => exact q.elim
theorem wp_thunk {lam : Lam} {Q : W → Store → Prop} (h : (lam bs S).wp Q E') : (mThunk lam bs env S).wp Q E' := h
theorem wp_kept {w : W} {ws : List W} {Q : W → Store → Prop} (q : Q w S) : (mKept (w :: ws) bs env S).wp Q E' := q
theorem wp_lam {F : Lam → Lam} {m : M W} {Q : W → Store → Prop} (h : (F (fun bs' S' => m bs' env S') bs S).wp Q E') : (mLam F m bs env S).wp Q E' := h
theorem wp_raise {c : Nat} (h : E c [] env S) : (sRaise c bs env S).wp N R B C E := h
theorem wp_raise1 {c : Nat} {ms : M (List W)} (h : (ms bs env S).wp (fun ws S1 => ∃ w, ws = [w] ∧ E c [w] env S1) fun c ws S1 => E c ws env S1) : (sRaise1 c ms bs env S).wp N R B C E := so_wp (h.imp fun ws S1 ⟨w, e, q⟩ => by subst e; exact q)
theorem ex1 {w : W} {Q : W → Prop} (q : Q w) : ∃ a, [w] = [a] ∧ Q a := ⟨w, rfl, q⟩
theorem wp_fnL {n : Nat} {m : Lam → MS} {lam : Lam} {Q : W → Store → Prop}
    (h : (m lam (S.length :: bs) (List.replicate n none) S).wp (fun _ S1 => Q (.dat .none) (S1.take S.length)) (RT S.length Q) (fun _ _ => False) (fun _ _ => False) fun c ws _ S1 => EX S.length E' c ws S1) : (fnL n m lam bs S).wp Q E' := by
  have := wp_fn (n := n) (p := 0) (m := m lam) (ws := []) (bs := bs) (S := S) (Q := Q) (E := E') rfl (by simpa [startE] using h)
  unfold fnM at this
  simpa [fnL, startE] using this
theorem ex_dat {n c : Nat} {d : PyData} {E : EK} (q : E c [.dat d] (S.take n)) : EX n E c [.dat d] S := q
theorem ex_nil {n c : Nat} {E : EK} (q : E c [] (S.take n)) : EX n E c [] S := q
theorem ex_nil' {c : Nat} {E : EK} (q : E c [] S) : EX S.length E c [] S := by
  show E c [] (S.take S.length)
  rw [List.take_length]; exact q
theorem ex_dat' {c : Nat} {d : PyData} {E : EK} (q : E c [.dat d] S) : EX S.length E c [.dat d] S := by
  show E c [.dat d] (S.take S.length)
  rw [List.take_length]; exact q
/-- an answer or an exception that is known -/
theorem wp_exq {α : Type} {o : Out α} {c : Nat} {ws : List W} {Q : α → Store → Prop} {E : EK} (h : o = .ex c ws S) (q : E c ws S) : o.wp Q E := by rw [h]; exact q
theorem eq_ex_wp {α : Type} {o : Out α} {c : Nat} {ws : List W} (h : o.wp (fun _ _ => False) (fun c' ws' S' => c' = c ∧ ws' = ws ∧ S' = S)) : o = .ex c ws S := by
  cases o with
  | ok b T => exact h.elim
  | ex c' ws' T => obtain ⟨rfl, rfl, rfl⟩ := h; rfl
  | stuck => exact h.elim
end
end Rf
local macro_rules
  | `(tactic| array_get_dec) => `(tactic| first
    | (with_reducible refine Rf.wp_try ?_)
    | (with_reducible refine Rf.wp_suite ?_)
    | (with_reducible refine Rf.wp_thunk ?_)
    | (with_reducible refine Rf.wp_kept ?_)
    | (with_reducible refine Rf.wp_lam ?_)
    | (with_reducible refine Rf.wp_raise ?_)
    | (with_reducible refine Rf.wp_raise1 ?_)
    | (with_reducible refine Rf.ex1 ?_)
    | (with_reducible refine Rf.ex_nil' ?_)
    | (with_reducible refine Rf.ex_dat' ?_))
namespace Rf
theorem ifBT {c : Bool} {A B : Prop} (h : c = true) (q : A) : (c = true → A) ∧ (c = false → B) := ⟨fun _ => q, fun z => (by rw [h] at z; cases z)⟩
theorem ifBF {c : Bool} {A B : Prop} (h : c = false) (q : B) : (c = true → A) ∧ (c = false → B) := ⟨fun z => (by rw [h] at z; cases z), fun _ => q⟩
end Rf

namespace Rf
open PySem L2 Nm

/-! ### plain data: how deep, when equal -/
theorem eqvAll_len : ∀ {xs ys : List PyData}, PyData.eqvAll xs ys = true → xs.length = ys.length
  | [], [], _ => rfl
  | _ :: xs, _ :: ys, h => by
    simp only [PyData.eqvAll, Bool.and_eq_true] at h
    simp [eqvAll_len h.2]
  | [], _ :: _, h => by simp [PyData.eqvAll] at h
  | _ :: _, [], h => by simp [PyData.eqvAll] at h
def PD (n : Nat) (d : PyData) : Prop := d.plain = true ∧ d.depth ≤ n
theorem PD.mono {m n : Nat} {d : PyData} (h : PD m d) (hmn : m ≤ n) : PD n d := ⟨h.1, Nat.le_trans h.2 hmn⟩
theorem pd_str {n : Nat} (z : Str) : PD n (.str z) := ⟨rfl, by simp [PyData.depth]⟩
theorem pd_int {n : Nat} (z : Int) : PD n (.int z) := ⟨rfl, by simp [PyData.depth]⟩
theorem pd_bool {n : Nat} (z : Bool) : PD n (.bool z) := ⟨rfl, by simp [PyData.depth]⟩
theorem pd_non {n : Nat} : PD n .none := ⟨rfl, by simp [PyData.depth]⟩
theorem pd_all {n : Nat} : ∀ {xs : List PyData}, (∀ x ∈ xs, PD n x) → PyData.plainAll xs = true ∧ PyData.depthAll xs ≤ n
  | [], _ => by simp [PyData.plainAll, PyData.depthAll]
  | x :: xs, h => by
    obtain ⟨a, b⟩ := h x (by simp)
    obtain ⟨c, d⟩ := pd_all (xs := xs) fun y hy => h y (by simp [hy])
    refine ⟨by simp [PyData.plainAll, a, c], ?_⟩
    simp only [PyData.depthAll]
    omega
theorem pd_tup {n : Nat} {xs : List PyData} (h : ∀ x ∈ xs, PD n x) : PD (n + 1) (.tuple xs) := by
  obtain ⟨a, b⟩ := pd_all h
  exact ⟨by rw [PyData.plain]; exact a, by rw [PyData.depth]; omega⟩
theorem pd_lst {n : Nat} {xs : List PyData} (h : ∀ x ∈ xs, PD n x) : PD (n + 1) (.list xs) := by
  obtain ⟨a, b⟩ := pd_all h
  exact ⟨by rw [PyData.plain]; exact a, by rw [PyData.depth]; omega⟩
theorem eqv_self {d : PyData} (h : d.plain = true) : PyData.eqv d d = true := SeqAt.eqv_refl_plain d h
mutual
/-- no truth values, no dicts -/
def strictD : PyData → Bool
  | .none => true
  | .int _ => true
  | .str _ => true
  | .list xs => strictAll xs
  | .tuple xs => strictAll xs
  | _ => false
def strictAll : List PyData → Bool
  | [] => true
  | x :: xs => strictD x && strictAll xs
end
mutual
theorem strict_eq : ∀ {d e : PyData}, strictD d = true → strictD e = true → PyData.eqv d e = true → d = e
  | .none, e, _, he, h => by cases e <;> simp_all [PyData.eqv, strictD]
  | .int i, e, _, he, h => by cases e <;> simp_all [PyData.eqv, strictD]
  | .str x, e, _, he, h => by cases e <;> simp_all [PyData.eqv, strictD]
  | .list xs, .list ys, hd, he, h => by
    rw [PyData.eqv] at h
    rw [strict_eqAll (by rw [strictD] at hd; exact hd) (by rw [strictD] at he; exact he) h]
  | .tuple xs, .tuple ys, hd, he, h => by
    rw [PyData.eqv] at h
    rw [strict_eqAll (by rw [strictD] at hd; exact hd) (by rw [strictD] at he; exact he) h]
  | .list xs, .none, _, _, h => by simp [PyData.eqv] at h
  | .list xs, .int _, _, _, h => by simp [PyData.eqv] at h
  | .list xs, .str _, _, _, h => by simp [PyData.eqv] at h
  | .list xs, .bool _, _, _, h => by simp [PyData.eqv] at h
  | .list xs, .tuple _, _, _, h => by simp [PyData.eqv] at h
  | .list xs, .dict _, _, _, h => by simp [PyData.eqv] at h
  | .tuple xs, .none, _, _, h => by simp [PyData.eqv] at h
  | .tuple xs, .int _, _, _, h => by simp [PyData.eqv] at h
  | .tuple xs, .str _, _, _, h => by simp [PyData.eqv] at h
  | .tuple xs, .bool _, _, _, h => by simp [PyData.eqv] at h
  | .tuple xs, .list _, _, _, h => by simp [PyData.eqv] at h
  | .tuple xs, .dict _, _, _, h => by simp [PyData.eqv] at h
  | .bool _, _, hd, _, _ => by simp [strictD] at hd
  | .dict _, _, hd, _, _ => by simp [strictD] at hd
theorem strict_eqAll : ∀ {xs ys : List PyData}, strictAll xs = true → strictAll ys = true → PyData.eqvAll xs ys = true → xs = ys
  | [], [], _, _, _ => rfl
  | x :: xs, y :: ys, hd, he, h => by
    rw [PyData.eqvAll, Bool.and_eq_true] at h
    rw [strictAll, Bool.and_eq_true] at hd he
    rw [strict_eq hd.1 he.1 h.1, strict_eqAll hd.2 he.2 h.2]
  | [], _ :: _, _, _, h => by simp [PyData.eqvAll] at h
  | _ :: _, [], _, _, h => by simp [PyData.eqvAll] at h
end
mutual
theorem strict_plain : ∀ {d : PyData}, strictD d = true → d.plain = true
  | .none, _ => rfl
  | .int _, _ => rfl
  | .str _, _ => rfl
  | .list xs, h => by rw [PyData.plain]; exact strict_plainAll (by rw [strictD] at h; exact h)
  | .tuple xs, h => by rw [PyData.plain]; exact strict_plainAll (by rw [strictD] at h; exact h)
  | .bool _, _ => rfl
  | .dict _, h => by simp [strictD] at h
theorem strict_plainAll : ∀ {xs : List PyData}, strictAll xs = true → PyData.plainAll xs = true
  | [], _ => rfl
  | x :: xs, h => by
    rw [strictAll, Bool.and_eq_true] at h
    rw [PyData.plainAll, strict_plain h.1, strict_plainAll h.2]; rfl
end
theorem strict_eqv {d e : PyData} (hd : strictD d = true) (he : strictD e = true) : PyData.eqv d e = true ↔ d = e := ⟨strict_eq hd he, fun h => by rw [h]; exact eqv_self (strict_plain he)⟩
theorem strict_all {xs : List PyData} (h : ∀ x ∈ xs, strictD x = true) : strictAll xs = true := by
  induction xs with
  | nil => rfl
  | cons x xs ih => rw [strictAll, h x (by simp), ih fun y hy => h y (by simp [hy])]; rfl
theorem eqv_dec {d e : PyData} {p : Prop} [Decidable p] (hd : strictD d = true) (he : strictD e = true) (h : d = e ↔ p) : PyData.eqv d e = decide p := by
  by_cases hp : p
  · rw [decide_eq_true hp]; exact (strict_eqv hd he).mpr (h.mpr hp)
  · rw [decide_eq_false hp]
    cases q : PyData.eqv d e with
    | false => rfl
    | true => exact absurd (h.mp (strict_eq hd he q)) hp
section
variable {bs : List Nat} {S : Store} {Q : W → Store → Prop}
theorem eq_pd {neg : Bool} {m n : Nat} {d e : PyData} (hd : PD m d) (he : PD n e) (hm : m ≤ 64) (q : Q (.dat (.bool (PyData.eqv d e != neg))) S) : wpo (eqF neg bs (.dat d) (.dat e) S) Q := eq_view rfl rfl hd.1 he.1 (Nat.le_trans hd.2 hm) q
/-- equal, and known so -/
theorem eq_same {neg : Bool} {n : Nat} {d : PyData} (hd : PD n d) (hn : n ≤ 64) (q : Q (.dat (.bool (!neg))) S) : wpo (eqF neg bs (.dat d) (.dat d) S) Q := eq_pd hd hd hn (by rw [eqv_self hd.1]; cases neg <;> exact q)
theorem repr_dat {d : PyData} {t : Str} (h : reprD d = some t) (q : Q (.dat (.str t)) S) : wpo (reprF bs [.dat d] S) Q := by
  unfold reprF
  show wpo ((reprD d).map fun t => (W.str t, S)) Q
  rw [h]; exact q
end
end Rf

namespace Rf
open PySem L2 Nm
section
variable {bs : List Nat} {S : Store} {Q : W → Store → Prop} {x y : W}
theorem eqA_of (h : wpo (eqF false bs x y S) Q) : wpo (eqAF bs x y S) Q := by
  unfold eqAF
  unfold wpo at h ⊢
  split at h
  · rename_i e; rw [e]; exact h
  · exact h.elim
theorem eqA_tup {xs : List PyData} (h : wpo (eqF false bs (.dat (.tuple xs)) y S) Q) : wpo (eqAF bs (.dat (.tuple xs)) y S) Q := eqA_of h
theorem eqA_lst {xs : List PyData} (h : wpo (eqF false bs (.dat (.list xs)) y S) Q) : wpo (eqAF bs (.dat (.list xs)) y S) Q := eqA_of h
theorem eqA_dt {kvs : List (PyData × PyData)} {ds : List PyData} (h : PyData.plainAll ds = true) (q : Q (.dat (.bool false)) S) : wpo (eqAF bs (.dat (.dict kvs)) (.dat (.tuple ds)) S) Q := by
  have e1 : eqF false bs (.dat (.dict kvs)) (.dat (.tuple ds)) S = none := by
    unfold eqF
    show (if PyData.plain (.dict kvs) = true ∧ _ then _ else none) = none
    exact if_neg fun z => by have := z.1; simp [PyData.plain] at this
  have e2 : eqDT bs (.dat (.dict kvs)) (.dat (.tuple ds)) S = some (.bl false, S) := by
    show (if isTupD (.tuple ds) = true then some (W.bl false, S) else none) = _
    rw [if_pos (show isTupD (.tuple ds) = true from h)]
  unfold eqAF
  rw [e1, e2]; exact q
end
end Rf
local macro_rules
  | `(tactic| array_get_dec) => `(tactic| first
    | (with_reducible refine Rf.eqA_tup ?_)
    | (with_reducible refine Rf.eqA_lst ?_))
namespace Rf
/-- a and b, known to be false: what follows is asked once -/
theorem and_false {p : Bool} {m : M Bool} {bs : List Nat} {env : Env} {S : Store} {K : Bool → Store → Prop} {E : EK} (hK : K false S) (h : p = true → (m bs env S).wp (fun v S' => v = false ∧ S' = S) E) : (p = true → (m bs env S).wp K E) ∧ (p = false → (Out.ok false S).wp K E) :=
  ⟨fun z => (h z).imp fun v S' ⟨a, b⟩ => by subst a b; exact hK, fun _ => hK⟩
end Rf

namespace V
open PySem L2 PyProof.Rows Rf
def top (i : Nat) : Stmt := PySem.Challenge.pw_everycut_k01_whole_names_cells_and_paths.main.body.getD i (.Pass ⟨0, 0, 0, 0⟩)
def errsV : List Nat := [50, 51, 52]
def clsV : List Nat := [51, 52, 50]
def catV (k c : Nat) : Bool := decide ((k, c) ∈ ([(50, 50), (51, 51), (52, 52)] : List (Nat × Nat)))
structure Txt (g : Gx) (mg : Str → Option Value) (base : Heap) (a : Nat → Addr) (fd : Nat → FuncData) : Prop where
  b_len : mg "len" = none
  c_MAX_NAME : ∃ u, mg "MAX_NAME" = some u ∧ RelV (.int 8) u
  b_isinstance : mg "isinstance" = none
  b_str : mg "str" = none
  c_LETTERS : ∃ u, mg "LETTERS" = some u ∧ RelV (.str "abcdefghijklmnopqrstuvwxyz") u
  b_all : mg "all" = none
  c_MAX_PATH : ∃ u, mg "MAX_PATH" = some u ∧ RelV (.int 8) u
  b_tuple : mg "tuple" = none
  c_MAX_CELL : ∃ u, mg "MAX_CELL" = some u ∧ RelV (.int 999999999999999999) u
  b_bool : mg "bool" = none
  b_int : mg "int" = none
  b_range : mg "range" = none
  c_BASE : ∃ u, mg "BASE" = some u ∧ RelV (.int 27) u
  b_abs : mg "abs" = none
  b_max : mg "max" = none
  b_repr : mg "repr" = none
  b_min : mg "min" = none
  f_is_name : Fun g.K "is_name" "is_name" (top 11) (a 0) (fd 0)
  n_is_name : Binds g.K (fd 0) ["value"] []
  g_is_name : mg "is_name" = some (.ref (a 0))
  f_is_path : Fun g.K "is_path" "is_path" (top 12) (a 1) (fd 1)
  n_is_path : Binds g.K (fd 1) ["value"] []
  g_is_path : mg "is_path" = some (.ref (a 1))
  f_is_cell : Fun g.K "is_cell" "is_cell" (top 13) (a 2) (fd 2)
  n_is_cell : Binds g.K (fd 2) ["value"] []
  g_is_cell : mg "is_cell" = some (.ref (a 2))
  f_check_path : Fun g.K "check_path" "check_path" (top 14) (a 3) (fd 3)
  n_check_path : Binds g.K (fd 3) ["path"] []
  g_check_path : mg "check_path" = some (.ref (a 3))
  f_name_cell : Fun g.K "name_cell" "name_cell" (top 15) (a 4) (fd 4)
  n_name_cell : Binds g.K (fd 4) ["name"] []
  g_name_cell : mg "name_cell" = some (.ref (a 4))
  f__letters_of : Fun g.K "_letters_of" "_letters_of" (top 18) (a 7) (fd 7)
  n__letters_of : Binds g.K (fd 7) ["cell"] []
  g__letters_of : mg "_letters_of" = some (.ref (a 7))
  f_name_of_cell : Fun g.K "name_of_cell" "name_of_cell" (top 16) (a 5) (fd 5)
  n_name_of_cell : Binds g.K (fd 5) ["cell"] []
  g_name_of_cell : mg "name_of_cell" = some (.ref (a 5))
  f_cell_name : Fun g.K "cell_name" "cell_name" (top 17) (a 6) (fd 6)
  n_cell_name : Binds g.K (fd 6) ["cell"] []
  g_cell_name : mg "cell_name" = some (.ref (a 6))
  f_parent_of : Fun g.K "parent_of" "parent_of" (top 19) (a 8) (fd 8)
  n_parent_of : Binds g.K (fd 8) ["path"] []
  g_parent_of : mg "parent_of" = some (.ref (a 8))
  f_is_within : Fun g.K "is_within" "is_within" (top 20) (a 9) (fd 9)
  n_is_within : Binds g.K (fd 9) ["path", "value"] []
  g_is_within : mg "is_within" = some (.ref (a 9))
  f__law_sack : Fun g.K "_law_sack" "_law_sack" (top 22) (a 10) (fd 10)
  n__law_sack : Binds g.K (fd 10) ["script", "spot"] []
  g__law_sack : mg "_law_sack" = some (.ref (a 10))
  f__law_pull : Fun g.K "_law_pull" "_law_pull" (top 23) (a 11) (fd 11)
  n__law_pull : Binds g.K (fd 11) ["sack", "total"] []
  g__law_pull : mg "_law_pull" = some (.ref (a 11))
  f__law_any : Fun g.K "_law_any" "_law_any" (top 24) (a 12) (fd 12)
  n__law_any : Binds g.K (fd 12) ["sack", "items"] []
  g__law_any : mg "_law_any" = some (.ref (a 12))
  f__law_word : Fun g.K "_law_word" "_law_word" (top 25) (a 13) (fd 13)
  n__law_word : Binds g.K (fd 13) ["sack", "most"] []
  g__law_word : mg "_law_word" = some (.ref (a 13))
  f__law_own_cell : Fun g.K "_law_own_cell" "_law_own_cell" (top 26) (a 14) (fd 14)
  n__law_own_cell : Binds g.K (fd 14) ["name"] []
  g__law_own_cell : mg "_law_own_cell" = some (.ref (a 14))
  f__law_own_name : Fun g.K "_law_own_name" "_law_own_name" (top 27) (a 15) (fd 15)
  n__law_own_name : Binds g.K (fd 15) ["cell"] []
  g__law_own_name : mg "_law_own_name" = some (.ref (a 15))
  f__law_word_for : Fun g.K "_law_word_for" "_law_word_for" (top 28) (a 16) (fd 16)
  n__law_word_for : Binds g.K (fd 16) ["call"] []
  g__law_word_for : mg "_law_word_for" = some (.ref (a 16))
  f__law_names_right : Fun g.K "_law_names_right" "_law_names_right" (top 29) (a 17) (fd 17)
  l__law_names_right : ∃ co Pt, (fd 17).code = .ref co ∧ LamX.TabB base mg co Pt ∧ (Pt, (("_law_names_right" : Str) ++ ".<locals>." ++ "<lambda>")) ∈ g.T ∧ ∀ p ∈ g.T, p.1 = Pt → p.2 = (("_law_names_right" : Str) ++ ".<locals>." ++ "<lambda>")
  n__law_names_right : Binds g.K (fd 17) ["sack"] []
  g__law_names_right : mg "_law_names_right" = some (.ref (a 17))
  f__law_paths_right : Fun g.K "_law_paths_right" "_law_paths_right" (top 30) (a 18) (fd 18)
  l__law_paths_right : ∃ co Pt, (fd 18).code = .ref co ∧ LamX.TabB base mg co Pt ∧ (Pt, (("_law_paths_right" : Str) ++ ".<locals>." ++ "<lambda>")) ∈ g.T ∧ ∀ p ∈ g.T, p.1 = Pt → p.2 = (("_law_paths_right" : Str) ++ ".<locals>." ++ "<lambda>")
  n__law_paths_right : Binds g.K (fd 18) ["sack"] []
  g__law_paths_right : mg "_law_paths_right" = some (.ref (a 18))
  f_law : Fun g.K "law" "law" (top 31) (a 19) (fd 19)
  n_law : Binds g.K (fd 19) ["script"] []
  g_law : mg "law" = some (.ref (a 19))
  gx_InvalidName : mg "InvalidName" = some (.ref (g.cls 50))
  kx_InvalidName : PySem.W.keepIn g.K (.ref (g.cls 50)) = true
  qx_InvalidName : PySem.W.excIn g.K (g.cls 50) [.type "ValueError", .type "Exception", .type "BaseException", .type "object"] "ValueError.__new__" = true
  bx_InvalidName : PySem.W.subIn g.K (.ref (g.cls 50)) (.type "BaseException") = some true
  tx_InvalidName : PySem.W.typeIn g.K (.ref (g.cls 50)) = some (.type "type")
  gx_InvalidNumber : mg "InvalidNumber" = some (.ref (g.cls 51))
  kx_InvalidNumber : PySem.W.keepIn g.K (.ref (g.cls 51)) = true
  bx_InvalidNumber : PySem.W.subIn g.K (.ref (g.cls 51)) (.type "BaseException") = some true
  tx_InvalidNumber : PySem.W.typeIn g.K (.ref (g.cls 51)) = some (.type "type")
  gx_InvalidOperation : mg "InvalidOperation" = some (.ref (g.cls 52))
  kx_InvalidOperation : PySem.W.keepIn g.K (.ref (g.cls 52)) = true
  qx_InvalidOperation : PySem.W.excIn g.K (g.cls 52) [.type "ValueError", .type "Exception", .type "BaseException", .type "object"] "ValueError.__new__" = true
  bx_InvalidOperation : PySem.W.subIn g.K (.ref (g.cls 52)) (.type "BaseException") = some true
  tx_InvalidOperation : PySem.W.typeIn g.K (.ref (g.cls 52)) = some (.type "type")
  lo_InvalidNumber : ∃ fi, PySem.ExInvalidNumber.Txt g.K mg (g.cls 51) fi
  fl_InvalidNumber : g.fld 51 = "given"
  xf_InvalidNumber : XfC g.K (g.cls 51)
  xn_InvalidNumber : PySem.W.findIn g.K (.ref (g.cls 51)) "given" = some none
  xm : ∀ c ∈ clsV, ∀ k ∈ errsV, PySem.W.exmOne g.K (.ref (g.cls k)) (.ref (g.cls c)) = some (catV k c)
theorem pinT {g : Gx} {mg : Str → Option Value} {base : Heap} {a : Nat → Addr} {fd : Nat → FuncData} (T : Txt g mg base a fd) {P : List Addr → Hp → Prop} {hP : Stays P} : Txt (g.pin P hP) mg base a fd := ⟨T.b_len, T.c_MAX_NAME, T.b_isinstance, T.b_str, T.c_LETTERS, T.b_all, T.c_MAX_PATH, T.b_tuple, T.c_MAX_CELL, T.b_bool, T.b_int, T.b_range, T.c_BASE, T.b_abs, T.b_max, T.b_repr, T.b_min, T.f_is_name, T.n_is_name, T.g_is_name, T.f_is_path, T.n_is_path, T.g_is_path, T.f_is_cell, T.n_is_cell, T.g_is_cell, T.f_check_path, T.n_check_path, T.g_check_path, T.f_name_cell, T.n_name_cell, T.g_name_cell, T.f__letters_of, T.n__letters_of, T.g__letters_of, T.f_name_of_cell, T.n_name_of_cell, T.g_name_of_cell, T.f_cell_name, T.n_cell_name, T.g_cell_name, T.f_parent_of, T.n_parent_of, T.g_parent_of, T.f_is_within, T.n_is_within, T.g_is_within, T.f__law_sack, T.n__law_sack, T.g__law_sack, T.f__law_pull, T.n__law_pull, T.g__law_pull, T.f__law_any, T.n__law_any, T.g__law_any, T.f__law_word, T.n__law_word, T.g__law_word, T.f__law_own_cell, T.n__law_own_cell, T.g__law_own_cell, T.f__law_own_name, T.n__law_own_name, T.g__law_own_name, T.f__law_word_for, T.n__law_word_for, T.g__law_word_for, T.f__law_names_right, T.l__law_names_right, T.n__law_names_right, T.g__law_names_right, T.f__law_paths_right, T.l__law_paths_right, T.n__law_paths_right, T.g__law_paths_right, T.f_law, T.n_law, T.g_law, T.gx_InvalidName, T.kx_InvalidName, T.qx_InvalidName, T.bx_InvalidName, T.tx_InvalidName, T.gx_InvalidNumber, T.kx_InvalidNumber, T.bx_InvalidNumber, T.tx_InvalidNumber, T.gx_InvalidOperation, T.kx_InvalidOperation, T.qx_InvalidOperation, T.bx_InvalidOperation, T.tx_InvalidOperation, T.lo_InvalidNumber, T.fl_InvalidNumber, T.xf_InvalidNumber, T.xn_InvalidNumber, T.xm⟩
section
variable {P : Program} {w : World} {g : Gx} {mg : Str → Option Value} {base : Heap} {a : Nat → Addr} {fd : Nat → FuncData}
theorem sc_is_name : FnScope ["value", "letter"] ["value"] (defScope (top 11)) := ⟨rfl, rfl, rfl, by decide +kernel, rfl, by decide +kernel, by decide +kernel⟩
def m_is_name : MS := (sSeq (sIf (mOr (mNot (mTru (mIsi "str" (mVar 0)))) (mNot (mB (mChain (ordF .le) (ordF .le) (mCon (.int 1)) (mCB (un lenW) (mCons (mVar 0) mNil)) (mCon (.int 8)))))) (sRet (mCon (.bool false))) sNil) (sRet (mCB (un allF) (mCons (mComp false (mItS (mVar 0)) [1] (tName 1) mYes (mBin (inAF false) (mVar 1) (mCon (.str "abcdefghijklmnopqrstuvwxyz")))) mNil))))
def F_is_name : FnT := fnM 2 1 m_is_name
theorem ok_is_name (T : Txt g mg base a fd) : FnG P w g.K mg base 1 (a 0) (fd 0) ["value"] (spF g F_is_name) := fn_ok T.f_is_name sc_is_name fun cdv A outer s H E hr hc =>
  (rss_cons (rs_if (PW.pt (rw_or (rt_not (rt_tru rfl (re_isi rfl rfl T.b_isinstance rfl (re_var (i := 0)) rfl T.b_str rfl))) (rw_or1 (rt_not (rt_chain (ro_ord .le rfl (un100 hr)) (ro_ord .le rfl (un100 hr)) re_int (re_callB (rc_len rfl) rfl T.b_len rfl (ra_cons (re_var (i := 0)) ra_nil)) (re_globE rfl T.c_MAX_NAME fun _ => .int _)))))) (rss_one (rs_ret re_bl)) rss_nil)
    (rss_one (rs_ret (re_callB (rc_all rfl rfl) rfl T.b_all rfl (ra_cons (re_lc (k := false) rfl sc_is_name.nd (own := [("letter", 1)]) (blkOk_by (by rfl)) (ri_all rfl (re_var (i := 0))) (fun s H C cl fp => (rc_name (i := 1) sc_is_name.nd)) (fun s H C cl fp => rts_nil) (fun s H C cl fp => (re_cmp (ro_inA rfl (un100 hr)) (re_var (i := 1)) (re_globE rfl T.c_LETTERS fun _ => .str _)))) ra_nil)))))
theorem sc_is_path : FnScope ["value", "name"] ["value"] (defScope (top 12)) := ⟨rfl, rfl, rfl, by decide +kernel, rfl, by decide +kernel, by decide +kernel⟩
def m_is_path : MS := (sSeq (sIf (mOr (mNot (mTru (mIsi "tuple" (mVar 0)))) (mB (mBin (ordF .gt) (mCB (un lenW) (mCons (mVar 0) mNil)) (mCon (.int 8))))) (sRet (mCon (.bool false))) sNil) (sRet (mCB (un allF) (mCons (mComp false (mItS (mVar 0)) [1] (tName 1) mYes (mCall F_is_name (mCons (mVar 1) mNil))) mNil))))
def F_is_path : FnT := fnM 2 1 m_is_path
theorem ok_is_path (T : Txt g mg base a fd) : FnG P w g.K mg base 2 (a 1) (fd 1) ["value"] (spF g F_is_path) := fn_ok T.f_is_path sc_is_path fun cdv A outer s H E hr hc =>
  (rss_cons (rs_if (PW.pt (rw_or (rt_not (rt_tru rfl (re_isi rfl rfl T.b_isinstance rfl (re_var (i := 0)) rfl T.b_tuple rfl))) (rw_or1 (rt_cmp (ro_ord .gt rfl (un100 hr)) (re_callB (rc_len rfl) rfl T.b_len rfl (ra_cons (re_var (i := 0)) ra_nil)) (re_globE rfl T.c_MAX_PATH fun _ => .int _))))) (rss_one (rs_ret re_bl)) rss_nil)
    (rss_one (rs_ret (re_callB (rc_all rfl rfl) rfl T.b_all rfl (ra_cons (re_lc (k := false) rfl sc_is_path.nd (own := [("name", 1)]) (blkOk_by (by rfl)) (ri_all rfl (re_var (i := 0))) (fun s H C cl fp => (rc_name (i := 1) sc_is_path.nd)) (fun s H C cl fp => rts_nil) (fun s H C cl fp => (re_call takes0 (ok_is_name T) (hr.mono (by decide)) rfl T.g_is_name T.f_is_name.kp T.n_is_name (ra_cons (re_var (i := 1)) ra_nil)))) ra_nil)))))
theorem sc_is_cell : FnScope ["value"] ["value"] (defScope (top 13)) := ⟨rfl, rfl, rfl, by decide +kernel, rfl, by decide +kernel, by decide +kernel⟩
def m_is_cell : MS := (sRet (mAndV (mIsi "int" (mVar 0)) (mAndV (mNotV (mIsi "bool" (mVar 0))) (mChain (ordF .le) (ordF .le) (mCon (.int 0)) (mVar 0) (mCon (.int 999999999999999999))))))
def F_is_cell : FnT := fnM 1 1 m_is_cell
theorem ok_is_cell (T : Txt g mg base a fd) : FnG P w g.K mg base 1 (a 2) (fd 2) ["value"] (spF g F_is_cell) := fn_ok T.f_is_cell sc_is_cell fun cdv A outer s H E hr hc =>
  (rss_one (rs_ret (re_and rfl (re_isi rfl rfl T.b_isinstance rfl (re_var (i := 0)) rfl T.b_int rfl) (re_and rfl (re_not rfl (re_isi rfl rfl T.b_isinstance rfl (re_var (i := 0)) rfl T.b_bool rfl)) (re_one (re_chain (ro_ord .le rfl (un100 hr)) (ro_ord .le rfl (un100 hr)) re_int (re_var (i := 0)) (re_globE rfl T.c_MAX_CELL fun _ => .int _)))))))
theorem sc_check_path : FnScope ["path"] ["path"] (defScope (top 14)) := ⟨rfl, rfl, rfl, by decide +kernel, rfl, by decide +kernel, by decide +kernel⟩
def m_check_path : MS := (sIf (mNot (mTru (mCall F_is_path (mCons (mVar 0) mNil)))) (sRaise 50) sNil)
def F_check_path : FnT := fnM 1 1 m_check_path
theorem ok_check_path (T : Txt g mg base a fd) : FnG P w g.K mg base 3 (a 3) (fd 3) ["path"] (spF g F_check_path) := fn_ok T.f_check_path sc_check_path fun cdv A outer s H E hr hc =>
  (rss_one (rs_if (rt_not (rt_tru rfl (re_call (takes_of rfl rfl rfl rfl) (ok_is_path T) (hr.mono (by decide)) rfl T.g_is_path T.f_is_path.kp T.n_is_path (ra_cons (re_var (i := 0)) ra_nil)))) (rss_one (rs_raiseT (c := 50) rfl (takes_of rfl rfl rfl rfl) PySem.F.excBase_ValueError T.qx_InvalidName T.gx_InvalidName T.kx_InvalidName (raises_own T.bx_InvalidName T.tx_InvalidName) rfl)) rss_nil))
theorem sc_name_cell : FnScope ["name", "cell", "at", "figure"] ["name"] (defScope (top 15)) := ⟨rfl, rfl, rfl, by decide +kernel, rfl, by decide +kernel, by decide +kernel⟩
def m_name_cell : MS := (sSeq (sIf (mNot (mTru (mCall F_is_name (mCons (mVar 0) mNil)))) (sRaise 50) sNil) (sSeq (sAsg (mCon (.int 0)) (tName 1)) (sSeq (sFor (mRng1 (mCons (mCon (.int 8)) mNil)) (tName 2) (sSeq (sAsg (mIf (mB (mBin (ordF .lt) (mVar 2) (mCB (un lenW) (mCons (mVar 0) mNil)))) (mBin (addF false) (mMt .str sindF (mCon (.str "abcdefghijklmnopqrstuvwxyz")) (mCons (mBin ixF (mVar 0) (mVar 2)) mNil)) (mCon (.int 1))) (mCon (.int 0))) (tName 3)) (sAsg (mBin (addF false) (mBin (mulF false) (mVar 1) (mCon (.int 27))) (mVar 3)) (tName 1)))) (sRet (mVar 1)))))
def F_name_cell : FnT := fnM 4 1 m_name_cell
theorem ok_name_cell (T : Txt g mg base a fd) : FnG P w g.K mg base 2 (a 4) (fd 4) ["name"] (spF g F_name_cell) := fn_ok T.f_name_cell sc_name_cell fun cdv A outer s H E hr hc =>
  (rss_cons (rs_if (rt_not (rt_tru rfl (re_call (takes_of rfl rfl rfl rfl) (ok_is_name T) (hr.mono (by decide)) rfl T.g_is_name T.f_is_name.kp T.n_is_name (ra_cons (re_var (i := 0)) ra_nil)))) (rss_one (rs_raiseT (c := 50) rfl (takes_of rfl rfl rfl rfl) PySem.F.excBase_ValueError T.qx_InvalidName T.gx_InvalidName T.kx_InvalidName (raises_own T.bx_InvalidName T.tx_InvalidName) rfl)) rss_nil)
    (rss_cons (rs_set sc_name_cell.nd re_int)
    (rss_cons (rs_for (passes_of rfl) rfl (ri_range1 rfl T.b_range (ra_cons (re_globE rfl T.c_MAX_NAME fun _ => .int _) ra_nil)) (rg_name (i := 2) sc_name_cell.nd) (rss_cons (rs_set sc_name_cell.nd (re_ife (rt_cmp (ro_ord .lt rfl (un100 hr)) (re_var (i := 2)) (re_callB (rc_len rfl) rfl T.b_len rfl (ra_cons (re_var (i := 0)) ra_nil))) (re_bin (ro_add rfl) (re_mt rfl (T := .str) PySem.F.plainAttrs_str PySem.F.slot_str_index PySem.F.type_str_index (mt_sind) (re_globE rfl T.c_LETTERS fun _ => .str _) (ra_cons (re_ix rfl (un100 hr) (re_var (i := 0)) (re_var (i := 2))) ra_nil)) re_int) re_int))
    (rss_one (rs_set sc_name_cell.nd (re_bin (ro_add rfl) (re_bin (ro_mul rfl) (re_var (i := 1)) (re_globE rfl T.c_BASE fun _ => .int _)) (re_var (i := 3)))))))
    (rss_one (rs_ret (re_var (i := 1)))))))
theorem sc__letters_of : FnScope ["cell", "name", "left", "_", "figure"] ["cell"] (defScope (top 18)) := ⟨rfl, rfl, rfl, by decide +kernel, rfl, by decide +kernel, by decide +kernel⟩
def m__letters_of : MS := (sSeq (sAsg (mCon (.str "")) (tName 1)) (sSeq (sAsg (mVar 0) (tName 2)) (sSeq (sFor (mRng1 (mCons (mCon (.int 8)) mNil)) (tName 3) (sSeq (sAsg (mBin modF (mVar 2) (mCon (.int 27))) (tName 4)) (sSeq (sAsg (mBin fdivF (mVar 2) (mCon (.int 27))) (tName 2)) (sIf (mB (mBin (ordF .gt) (mVar 4) (mCon (.int 0)))) (sAsg (mBin (addF false) (mBin ixF (mCon (.str "abcdefghijklmnopqrstuvwxyz")) (mBin subF (mVar 4) (mCon (.int 1)))) (mVar 1)) (tName 1)) sNil)))) (sRet (mVar 1)))))
def F__letters_of : FnT := fnM 5 1 m__letters_of
theorem ok__letters_of (T : Txt g mg base a fd) : FnG P w g.K mg base 1 (a 7) (fd 7) ["cell"] (spF g F__letters_of) := fn_ok T.f__letters_of sc__letters_of fun cdv A outer s H E hr hc =>
  (rss_cons (rs_set sc__letters_of.nd re_str)
    (rss_cons (rs_set sc__letters_of.nd (re_var (i := 0)))
    (rss_cons (rs_for (passes_of rfl) rfl (ri_range1 rfl T.b_range (ra_cons (re_globE rfl T.c_MAX_NAME fun _ => .int _) ra_nil)) (rg_name (i := 3) sc__letters_of.nd) (rss_cons (rs_set sc__letters_of.nd (re_bin ro_mod (re_var (i := 2)) (re_globE rfl T.c_BASE fun _ => .int _)))
    (rss_cons (rs_set sc__letters_of.nd (re_bin ro_fdiv (re_var (i := 2)) (re_globE rfl T.c_BASE fun _ => .int _)))
    (rss_one (rs_if (rt_cmp (ro_ord .gt rfl (un100 hr)) (re_var (i := 4)) re_int) (rss_one (rs_set sc__letters_of.nd (re_bin (ro_add rfl) (re_ix rfl (un100 hr) (re_globE rfl T.c_LETTERS fun _ => .str _) (re_bin ro_sub (re_var (i := 4)) re_int)) (re_var (i := 1))))) rss_nil)))))
    (rss_one (rs_ret (re_var (i := 1)))))))
theorem sc_name_of_cell : FnScope ["cell", "name"] ["cell"] (defScope (top 16)) := ⟨rfl, rfl, rfl, by decide +kernel, rfl, by decide +kernel, by decide +kernel⟩
def m_name_of_cell : MS := (sSeq (sAsg (mCall F__letters_of (mCons (mVar 0) mNil)) (tName 1)) (sRet (mIf (mAnd (mTru (mCall F_is_name (mCons (mVar 1) mNil))) (mB (mBin (eqF false) (mCall F_name_cell (mCons (mVar 1) mNil)) (mVar 0)))) (mVar 1) (mCon .none))))
def F_name_of_cell : FnT := fnM 2 1 m_name_of_cell
theorem ok_name_of_cell (T : Txt g mg base a fd) : FnG P w g.K mg base 3 (a 5) (fd 5) ["cell"] (spF g F_name_of_cell) := fn_ok T.f_name_of_cell sc_name_of_cell fun cdv A outer s H E hr hc =>
  (rss_cons (rs_set sc_name_of_cell.nd (re_call (takes_of rfl rfl rfl rfl) (ok__letters_of T) (hr.mono (by decide)) rfl T.g__letters_of T.f__letters_of.kp T.n__letters_of (ra_cons (re_var (i := 0)) ra_nil)))
    (rss_one (rs_ret (re_ife (PW.pt (rw_and (rt_tru rfl (re_call (takes_of rfl rfl rfl rfl) (ok_is_name T) (hr.mono (by decide)) rfl T.g_is_name T.f_is_name.kp T.n_is_name (ra_cons (re_var (i := 1)) ra_nil))) (rw_and1 (rt_cmp (ro_eq rfl (un100 hr)) (re_call (takes_of rfl rfl rfl rfl) (ok_name_cell T) (hr.mono (by decide)) rfl T.g_name_cell T.f_name_cell.kp T.n_name_cell (ra_cons (re_var (i := 1)) ra_nil)) (re_var (i := 0)))))) (re_var (i := 1)) re_non))))
theorem sc_cell_name : FnScope ["cell", "name"] ["cell"] (defScope (top 17)) := ⟨rfl, rfl, rfl, by decide +kernel, rfl, by decide +kernel, by decide +kernel⟩
def m_cell_name : MS := (sSeq (sAsg (mIf (mTru (mCall F_is_cell (mCons (mVar 0) mNil))) (mCall F_name_of_cell (mCons (mVar 0) mNil)) (mCon .none)) (tName 1)) (sSeq (sIf (mB (mBin (isNF false) (mVar 1) (mCon .none))) (sRaise1 51 (mCons (mVar 0) mNil)) sNil) (sRet (mVar 1))))
def F_cell_name : FnT := fnM 2 1 m_cell_name
theorem ok_cell_name (T : Txt g mg base a fd) : FnG P w g.K mg base 4 (a 6) (fd 6) ["cell"] (spF g F_cell_name) := fn_ok T.f_cell_name sc_cell_name fun cdv A outer s H E hr hc =>
  (rss_cons (rs_set sc_cell_name.nd (re_ife (rt_tru rfl (re_call (takes_of rfl rfl rfl rfl) (ok_is_cell T) (hr.mono (by decide)) rfl T.g_is_cell T.f_is_cell.kp T.n_is_cell (ra_cons (re_var (i := 0)) ra_nil))) (re_call (takes_of rfl rfl rfl rfl) (ok_name_of_cell T) (hr.mono (by decide)) rfl T.g_name_of_cell T.f_name_of_cell.kp T.n_name_of_cell (ra_cons (re_var (i := 0)) ra_nil)) re_non))
    (rss_cons (rs_if (rt_cmp ro_isN (re_var (i := 1)) re_non) (rss_one (rs_raise1f (c := 51) T.fl_InvalidNumber (ps_raise_InvalidNumber rfl T.lo_InvalidNumber.choose_spec hr.rm (takes_of rfl rfl rfl rfl) (ra_cons (re_var (i := 0)) ra_nil)))) rss_nil)
    (rss_one (rs_ret (re_var (i := 1))))))
theorem sc_parent_of : FnScope ["path"] ["path"] (defScope (top 19)) := ⟨rfl, rfl, rfl, by decide +kernel, rfl, by decide +kernel, by decide +kernel⟩
def m_parent_of : MS := (sSeq (sDrop (mCall F_check_path (mCons (mVar 0) mNil))) (sSeq (sIf (mNot (mTru (mVar 0))) (sRaise 52) sNil) (sRet (mSl (slF false) (mVar 0) mNoPart (mPart (mNeg (mCon (.int 1))))))))
def F_parent_of : FnT := fnM 1 1 m_parent_of
theorem ok_parent_of (T : Txt g mg base a fd) : FnG P w g.K mg base 4 (a 8) (fd 8) ["path"] (spF g F_parent_of) := fn_ok T.f_parent_of sc_parent_of fun cdv A outer s H E hr hc =>
  (rss_cons (rs_expr (re_call (takes_of rfl rfl rfl rfl) (ok_check_path T) (hr.mono (by decide)) rfl T.g_check_path T.f_check_path.kp T.n_check_path (ra_cons (re_var (i := 0)) ra_nil)))
    (rss_cons (rs_if (rt_not (rt_tru rfl (re_var (i := 0)))) (rss_one (rs_raiseT (c := 52) rfl (takes_of rfl rfl rfl rfl) PySem.F.excBase_ValueError T.qx_InvalidOperation T.gx_InvalidOperation T.kx_InvalidOperation (raises_own T.bx_InvalidOperation T.tx_InvalidOperation) rfl)) rss_nil)
    (rss_one (rs_ret (re_sl (slr rfl) (re_var (i := 0)) ro_noPart (ro_part (re_neg re_int)))))))
theorem sc_is_within : FnScope ["path", "value"] ["path", "value"] (defScope (top 20)) := ⟨rfl, rfl, rfl, by decide +kernel, rfl, by decide +kernel, by decide +kernel⟩
def m_is_within : MS := (sSeq (sDrop (mCall F_check_path (mCons (mVar 0) mNil))) (sRet (mAndV (mCall F_is_path (mCons (mVar 1) mNil)) (mBin (eqF false) (mSl (slF false) (mVar 1) mNoPart (mPart (mCB (un lenW) (mCons (mVar 0) mNil)))) (mVar 0)))))
def F_is_within : FnT := fnM 2 2 m_is_within
theorem ok_is_within (T : Txt g mg base a fd) : FnG P w g.K mg base 4 (a 9) (fd 9) ["path", "value"] (spF g F_is_within) := fn_ok T.f_is_within sc_is_within fun cdv A outer s H E hr hc =>
  (rss_cons (rs_expr (re_call (takes_of rfl rfl rfl rfl) (ok_check_path T) (hr.mono (by decide)) rfl T.g_check_path T.f_check_path.kp T.n_check_path (ra_cons (re_var (i := 0)) ra_nil)))
    (rss_one (rs_ret (re_and rfl (re_call (takes_of rfl rfl rfl rfl) (ok_is_path T) (hr.mono (by decide)) rfl T.g_is_path T.f_is_path.kp T.n_is_path (ra_cons (re_var (i := 1)) ra_nil)) (re_one (re_cmp (ro_eq rfl (un100 hr)) (re_sl (slr rfl) (re_var (i := 1)) ro_noPart (ro_part (re_callB (rc_len rfl) rfl T.b_len rfl (ra_cons (re_var (i := 0)) ra_nil)))) (re_var (i := 0))))))))
theorem sc__law_sack : FnScope ["script", "spot", "cell", "great"] ["script", "spot"] (defScope (top 22)) := ⟨rfl, rfl, rfl, by decide +kernel, rfl, by decide +kernel, by decide +kernel⟩
def m__law_sack : MS := (sSeq (sAsg (mIf (mB (mBin (ordF .lt) (mVar 1) (mCB (un lenW) (mCons (mVar 0) mNil)))) (mCB (un intW) (mCons (mBin ixF (mVar 0) (mVar 1)) mNil)) (mBin (addF false) (mBin (mulF false) (mCon (.int 211)) (mVar 1)) (mCon (.int 59)))) (tName 2)) (sSeq (sAsg (mBin modF (mCB (un intW) (mCons (mCB (un absW) (mCons (mVar 2) mNil)) mNil)) (mBin powF (mBin powF (mCon (.int 10)) (mCon (.int 57))) (mCon (.int 6)))) (tName 3)) (sRet (mLst true (mCons (mCB (max2F) (mCons (mCon (.int 0)) (mCons (mBin subF (mVar 3) (mBin powF (mCon (.int 10)) (mCon (.int 16)))) mNil))) (mCons (mBin (addF false) (mBin (addF false) (mBin (addF false) (mBin (mulF false) (mBin modF (mCB (un intW) (mCons (mVar 3) mNil)) (mCon (.int 2147483489))) (mCon (.int 101))) (mBin (mulF false) (mCon (.int 613)) (mVar 1))) (mBin (mulF false) (mCon (.int 29)) (mCB (un intW) (mCons (mBin (ordF .lt) (mVar 2) (mCon (.int 0))) mNil)))) (mCon (.int 11))) (mCons (mCon (.int 0)) mNil)))))))
def F__law_sack : FnT := fnM 4 2 m__law_sack
theorem ok__law_sack (T : Txt g mg base a fd) : FnG P w g.K mg base 1 (a 10) (fd 10) ["script", "spot"] (spF g F__law_sack) := fn_ok T.f__law_sack sc__law_sack fun cdv A outer s H E hr hc =>
  (rss_cons (rs_set sc__law_sack.nd (re_ife (rt_cmp (ro_ord .lt rfl (un100 hr)) (re_var (i := 1)) (re_callB (rc_len rfl) rfl T.b_len rfl (ra_cons (re_var (i := 0)) ra_nil))) (re_callTy (rc_int) rfl T.b_int rfl (ra_cons (re_ix rfl (un100 hr) (re_var (i := 0)) (re_var (i := 1))) ra_nil)) (re_bin (ro_add rfl) (re_bin (ro_mul rfl) re_int (re_var (i := 1))) re_int)))
    (rss_cons (rs_set sc__law_sack.nd (re_bin ro_mod (re_callTy (rc_int) rfl T.b_int rfl (ra_cons (re_callB (rc_abs) rfl T.b_abs rfl (ra_cons (re_var (i := 2)) ra_nil)) ra_nil)) (re_bin ro_pow (re_bin ro_pow re_int re_int) re_int)))
    (rss_one (rs_ret (re_lst (k := true) (ra_cons (re_callB (rc_max2 rfl) rfl T.b_max rfl (ra_cons re_int (ra_cons (re_bin ro_sub (re_var (i := 3)) (re_bin ro_pow re_int re_int)) ra_nil))) (ra_cons (re_bin (ro_add rfl) (re_bin (ro_add rfl) (re_bin (ro_add rfl) (re_bin (ro_mul rfl) (re_bin ro_mod (re_callTy (rc_int) rfl T.b_int rfl (ra_cons (re_var (i := 3)) ra_nil)) re_int) re_int) (re_bin (ro_mul rfl) re_int (re_var (i := 1)))) (re_bin (ro_mul rfl) re_int (re_callTy (rc_int) rfl T.b_int rfl (ra_cons (re_cmp (ro_ord .lt rfl (un100 hr)) (re_var (i := 2)) re_int) ra_nil)))) re_int) (ra_cons re_int ra_nil))))))))
theorem sc__law_pull : FnScope ["sack", "total", "one", "two", "found"] ["sack", "total"] (defScope (top 23)) := ⟨rfl, rfl, rfl, by decide +kernel, rfl, by decide +kernel, by decide +kernel⟩
def m__law_pull : MS := (sSeq (sIf (mB (mBin (ordF .gt) (mBin ixF (mVar 0) (mCon (.int 0))) (mCon (.int 0)))) (sSeq (sAsg (mBin modF (mCB (un intW) (mCons (mBin ixF (mVar 0) (mCon (.int 0))) mNil)) (mVar 1)) (tName 4)) (sSeq (sAsg (mBin fdivF (mBin ixF (mVar 0) (mCon (.int 0))) (mVar 1)) (tSub (mVar 0) (mCon (.int 0)) setF)) (sRet (mVar 4)))) sNil) (sSeq (sAsg (mBin (addF false) (mBin ixF (mVar 0) (mCon (.int 2))) (mCon (.int 1))) (tSub (mVar 0) (mCon (.int 2)) setF)) (sSeq (sAsg (mBin modF (mCB (un intW) (mCons (mBin (addF false) (mBin ixF (mVar 0) (mCon (.int 1))) (mBin (mulF false) (mCon (.int 9699713)) (mBin ixF (mVar 0) (mCon (.int 2))))) mNil)) (mCon (.int 2305843009213693951))) (tName 2)) (sSeq (sAsg (mBin (addF false) (mBin (mulF false) (mBin modF (mCB (un intW) (mCons (mBin (addF false) (mBin (mulF false) (mVar 2) (mVar 2)) (mBin (mulF false) (mCon (.int 139)) (mBin ixF (mVar 0) (mCon (.int 2))))) mNil)) (mCon (.int 2305843009213693921))) (mCon (.int 7368791))) (mVar 2)) (tName 3)) (sRet (mBin modF (mCB (un intW) (mCons (mBin fdivF (mVar 3) (mCon (.int 65539))) mNil)) (mVar 1)))))))
def F__law_pull : FnT := fnM 5 2 m__law_pull
theorem ok__law_pull (T : Txt g mg base a fd) : FnG P w g.K mg base 1 (a 11) (fd 11) ["sack", "total"] (spF g F__law_pull) := fn_ok T.f__law_pull sc__law_pull fun cdv A outer s H E hr hc =>
  (rss_cons (rs_if (rt_cmp (ro_ord .gt rfl (un100 hr)) (re_ix rfl (un100 hr) (re_var (i := 0)) re_int) re_int) (rss_cons (rs_set sc__law_pull.nd (re_bin ro_mod (re_callTy (rc_int) rfl T.b_int rfl (ra_cons (re_ix rfl (un100 hr) (re_var (i := 0)) re_int) ra_nil)) (re_var (i := 1))))
    (rss_cons (rs_asg (re_bin ro_fdiv (re_ix rfl (un100 hr) (re_var (i := 0)) re_int) (re_var (i := 1))) (rg_sub (re_var (i := 0)) re_int (set_ok (un1 hr))))
    (rss_one (rs_ret (re_var (i := 4)))))) rss_nil)
    (rss_cons (rs_asg (re_bin (ro_add rfl) (re_ix rfl (un100 hr) (re_var (i := 0)) re_int) re_int) (rg_sub (re_var (i := 0)) re_int (set_ok (un1 hr))))
    (rss_cons (rs_set sc__law_pull.nd (re_bin ro_mod (re_callTy (rc_int) rfl T.b_int rfl (ra_cons (re_bin (ro_add rfl) (re_ix rfl (un100 hr) (re_var (i := 0)) re_int) (re_bin (ro_mul rfl) re_int (re_ix rfl (un100 hr) (re_var (i := 0)) re_int))) ra_nil)) re_int))
    (rss_cons (rs_set sc__law_pull.nd (re_bin (ro_add rfl) (re_bin (ro_mul rfl) (re_bin ro_mod (re_callTy (rc_int) rfl T.b_int rfl (ra_cons (re_bin (ro_add rfl) (re_bin (ro_mul rfl) (re_var (i := 2)) (re_var (i := 2))) (re_bin (ro_mul rfl) re_int (re_ix rfl (un100 hr) (re_var (i := 0)) re_int))) ra_nil)) re_int) re_int) (re_var (i := 2))))
    (rss_one (rs_ret (re_bin ro_mod (re_callTy (rc_int) rfl T.b_int rfl (ra_cons (re_bin ro_fdiv (re_var (i := 3)) re_int) ra_nil)) (re_var (i := 1)))))))))
theorem sc__law_any : FnScope ["sack", "items"] ["sack", "items"] (defScope (top 24)) := ⟨rfl, rfl, rfl, by decide +kernel, rfl, by decide +kernel, by decide +kernel⟩
def m__law_any : MS := (sRet (mBin ixF (mVar 1) (mCall F__law_pull (mCons (mVar 0) (mCons (mCB (un lenW) (mCons (mVar 1) mNil)) mNil)))))
def F__law_any : FnT := fnM 2 2 m__law_any
theorem ok__law_any (T : Txt g mg base a fd) : FnG P w g.K mg base 2 (a 12) (fd 12) ["sack", "items"] (spF g F__law_any) := fn_ok T.f__law_any sc__law_any fun cdv A outer s H E hr hc =>
  (rss_one (rs_ret (re_ix rfl (un100 hr) (re_var (i := 1)) (re_call (takes_of rfl rfl rfl rfl) (ok__law_pull T) (hr.mono (by decide)) rfl T.g__law_pull T.f__law_pull.kp T.n__law_pull (ra_cons (re_var (i := 0)) (ra_cons (re_callB (rc_len rfl) rfl T.b_len rfl (ra_cons (re_var (i := 1)) ra_nil)) ra_nil))))))
theorem sc__law_word : FnScope ["sack", "most", "turn"] ["sack", "most"] (defScope (top 25)) := ⟨rfl, rfl, rfl, by decide +kernel, rfl, by decide +kernel, by decide +kernel⟩
def m__law_word : MS := (sRet (mMt .str joinF (mCon (.str "")) (mCons (mComp false (mRng1 (mCons (mBin (addF false) (mCon (.int 1)) (mCall F__law_pull (mCons (mVar 0) (mCons (mVar 1) mNil)))) mNil)) [2] (tName 2) mYes (mBin ixF (mCon (.str "abcxyz")) (mCall F__law_pull (mCons (mVar 0) (mCons (mCon (.int 6)) mNil))))) mNil)))
def F__law_word : FnT := fnM 3 2 m__law_word
theorem ok__law_word (T : Txt g mg base a fd) : FnG P w g.K mg base 2 (a 13) (fd 13) ["sack", "most"] (spF g F__law_word) := fn_ok T.f__law_word sc__law_word fun cdv A outer s H E hr hc =>
  (rss_one (rs_ret (re_mt rfl (T := .str) PySem.F.plainAttrs_str PySem.F.slot_str_join PySem.F.type_str_join (mt_joinR rfl) re_str (ra_cons (re_lc (k := false) rfl sc__law_word.nd (own := [("turn", 2)]) (blkOk_by (by rfl)) (ri_range1 rfl T.b_range (ra_cons (re_bin (ro_add rfl) re_int (re_call (takes_of rfl rfl rfl rfl) (ok__law_pull T) (hr.mono (by decide)) rfl T.g__law_pull T.f__law_pull.kp T.n__law_pull (ra_cons (re_var (i := 0)) (ra_cons (re_var (i := 1)) ra_nil)))) ra_nil)) (fun s H C cl fp => (rc_name (i := 2) sc__law_word.nd)) (fun s H C cl fp => rts_nil) (fun s H C cl fp => (re_ix rfl (un100 hr) re_str (re_call takes0 (ok__law_pull T) (hr.mono (by decide)) rfl T.g__law_pull T.f__law_pull.kp T.n__law_pull (ra_cons (re_var (i := 0)) (ra_cons re_int ra_nil)))))) ra_nil))))
theorem sc__law_own_cell : FnScope ["name", "found", "place"] ["name"] (defScope (top 26)) := ⟨rfl, rfl, rfl, by decide +kernel, rfl, by decide +kernel, by decide +kernel⟩
def m__law_own_cell : MS := (sSeq (sAsg (mCon (.int 0)) (tName 1)) (sSeq (sFor (mRng1 (mCons (mCon (.int 8)) mNil)) (tName 2) (sAsg (mBin (addF false) (mBin (mulF false) (mCon (.int 27)) (mVar 1)) (mIf (mB (mBin (ordF .lt) (mVar 2) (mCB (un lenW) (mCons (mVar 0) mNil)))) (mBin (addF false) (mMt .str sindF (mCon (.str "abcdefghijklmnopqrstuvwxyz")) (mCons (mBin ixF (mVar 0) (mVar 2)) mNil)) (mCon (.int 1))) (mCon (.int 0)))) (tName 1))) (sRet (mVar 1))))
def F__law_own_cell : FnT := fnM 3 1 m__law_own_cell
theorem ok__law_own_cell (T : Txt g mg base a fd) : FnG P w g.K mg base 1 (a 14) (fd 14) ["name"] (spF g F__law_own_cell) := fn_ok T.f__law_own_cell sc__law_own_cell fun cdv A outer s H E hr hc =>
  (rss_cons (rs_set sc__law_own_cell.nd re_int)
    (rss_cons (rs_for (passes_of rfl) rfl (ri_range1 rfl T.b_range (ra_cons re_int ra_nil)) (rg_name (i := 2) sc__law_own_cell.nd) (rss_one (rs_set sc__law_own_cell.nd (re_bin (ro_add rfl) (re_bin (ro_mul rfl) re_int (re_var (i := 1))) (re_ife (rt_cmp (ro_ord .lt rfl (un100 hr)) (re_var (i := 2)) (re_callB (rc_len rfl) rfl T.b_len rfl (ra_cons (re_var (i := 0)) ra_nil))) (re_bin (ro_add rfl) (re_mt rfl (T := .str) PySem.F.plainAttrs_str PySem.F.slot_str_index PySem.F.type_str_index (mt_sind) re_str (ra_cons (re_ix rfl (un100 hr) (re_var (i := 0)) (re_var (i := 2))) ra_nil)) re_int) re_int)))))
    (rss_one (rs_ret (re_var (i := 1))))))
theorem sc__law_own_name : FnScope ["cell", "place", "many", "figures", "left", "figure"] ["cell"] (defScope (top 27)) := ⟨rfl, rfl, rfl, by decide +kernel, rfl, by decide +kernel, by decide +kernel⟩
def m__law_own_name : MS := (sSeq (sPar 3 4 (mCons (mLst false mNil) (mCons (mVar 0) mNil))) (sSeq (sFor (mRng1 (mCons (mCon (.int 8)) mNil)) (tName 1) (sPar 3 4 (mCons (mBin (addF false) (mLst false (mCons (mBin modF (mVar 4) (mCon (.int 27))) mNil)) (mVar 3)) (mCons (mBin fdivF (mVar 4) (mCon (.int 27))) mNil)))) (sSeq (sAsg (mCB (un lenW) (mCons (mComp false (mItS (mVar 3)) [5] (tName 5) (mB (mBin (ordF .gt) (mVar 5) (mCon (.int 0)))) (mVar 5)) mNil)) (tName 2)) (sSeq (sIf (mOr (mB (mBin (ordF .gt) (mVar 4) (mCon (.int 0)))) (mOr (mB (mBin (eqF false) (mVar 2) (mCon (.int 0)))) (mB (mBin (inAF false) (mCon (.int 0)) (mSl (slF false) (mVar 3) mNoPart (mPart (mVar 2))))))) (sRet (mCon .none)) sNil) (sRet (mMt .str joinF (mCon (.str "")) (mCons (mComp false (mItS (mSl (slF false) (mVar 3) mNoPart (mPart (mVar 2)))) [5] (tName 5) mYes (mBin ixF (mCon (.str "abcdefghijklmnopqrstuvwxyz")) (mBin subF (mVar 5) (mCon (.int 1))))) mNil)))))))
def F__law_own_name : FnT := fnM 6 1 m__law_own_name
theorem ok__law_own_name (T : Txt g mg base a fd) : FnG P w g.K mg base 1 (a 15) (fd 15) ["cell"] (spF g F__law_own_name) := fn_ok T.f__law_own_name sc__law_own_name fun cdv A outer s H E hr hc =>
  (rss_cons (rs_par rfl sc__law_own_name.nd (i := 3) (j := 4) rfl rfl (by decide) rfl rfl (ra_cons (re_lst (k := false) ra_nil) (ra_cons (re_var (i := 0)) ra_nil)) rfl)
    (rss_cons (rs_for (passes_of rfl) rfl (ri_range1 rfl T.b_range (ra_cons re_int ra_nil)) (rg_name (i := 1) sc__law_own_name.nd) (rss_one (rs_par rfl sc__law_own_name.nd (i := 3) (j := 4) rfl rfl (by decide) rfl rfl (ra_cons (re_bin (ro_add rfl) (re_lst (k := false) (ra_cons (re_bin ro_mod (re_var (i := 4)) re_int) ra_nil)) (re_var (i := 3))) (ra_cons (re_bin ro_fdiv (re_var (i := 4)) re_int) ra_nil)) rfl)))
    (rss_cons (rs_set sc__law_own_name.nd (re_callB (rc_len rfl) rfl T.b_len rfl (ra_cons (re_lc (k := false) rfl sc__law_own_name.nd (own := [("figure", 5)]) (blkOk_by (by rfl)) (ri_all rfl (re_var (i := 3))) (fun s H C cl fp => (rc_name (i := 5) sc__law_own_name.nd)) (fun s H C cl fp => (rts_one (rt_cmp (ro_ord .gt rfl (un100 hr)) (re_var (i := 5)) re_int))) (fun s H C cl fp => (re_var (i := 5)))) ra_nil)))
    (rss_cons (rs_if (PW.pt (rw_or (rt_cmp (ro_ord .gt rfl (un100 hr)) (re_var (i := 4)) re_int) (rw_or (rt_cmp (ro_eq rfl (un100 hr)) (re_var (i := 2)) re_int) (rw_or1 (rt_cmp (ro_inA rfl (un100 hr)) re_int (re_sl (slr rfl) (re_var (i := 3)) ro_noPart (ro_part (re_var (i := 2))))))))) (rss_one (rs_ret re_non)) rss_nil)
    (rss_one (rs_ret (re_mt rfl (T := .str) PySem.F.plainAttrs_str PySem.F.slot_str_join PySem.F.type_str_join (mt_joinR rfl) re_str (ra_cons (re_lc (k := false) rfl sc__law_own_name.nd (own := [("figure", 5)]) (blkOk_by (by rfl)) (ri_all rfl (re_sl (slr rfl) (re_var (i := 3)) ro_noPart (ro_part (re_var (i := 2))))) (fun s H C cl fp => (rc_name (i := 5) sc__law_own_name.nd)) (fun s H C cl fp => rts_nil) (fun s H C cl fp => (re_ix rfl (un100 hr) re_str (re_bin ro_sub (re_var (i := 5)) re_int)))) ra_nil))))))))
theorem sc__law_word_for : FnScope ["call", "error"] ["call"] (defScope (top 28)) := ⟨rfl, rfl, rfl, by decide +kernel, rfl, by decide +kernel, by decide +kernel⟩
def m__law_word_for (lam : Lam) : MS := (sTry (sRet (mTup (mCons (mCon (.str "told")) (mCons (mThunk lam) mNil)))) errsV catV [⟨50, none, fun ws => (sRet (mTup (mCons (mCon (.str "raised")) (mCons (mCon (.str "name")) mNil))))⟩, ⟨52, none, fun ws => (sRet (mTup (mCons (mCon (.str "raised")) (mCons (mCon (.str "operation")) mNil))))⟩, ⟨51, some 1, fun ws => (sRet (mTup (mCons (mCon (.str "raised")) (mCons (mCon (.str "number")) (mCons (mCB (reprF) (mCons (mKept ws) mNil)) mNil)))))⟩])
def F__law_word_for : Lam → Lam := fnL 2 m__law_word_for
theorem lm__law_word_for {g : Gx} (T : Txt g mg base a fd) {k : Nat} {cdv : Value} {A : Around} {outer : List PySem.Env} {s : Shared} {H : Hp} {E : XK} {fv : Addr} {lam : Lam} (hr : RoomG k (A.deeper (envOfC "_law_word_for" (defScope (top 28)) s.heap.objs.size (a 16) cdv))) (hk : 0 ≤ k)
    (act : ActOk (cxOf (L2.CX P w) P w g.K mg base ["call", "error"] "_law_word_for" (defScope (top 28)) (a 16) cdv A outer s H E) g fv "call" lam) : PSs (cxOf (L2.CX P w) P w g.K mg base ["call", "error"] "_law_word_for" (defScope (top 28)) (a 16) cdv A outer s H E) (defBody (top 28)) (rdSC (slot0 fv) g (fun c d _ H => E c d H) (m__law_word_for lam)) := by
  have hr : RoomG 0 (A.deeper (envOfC "_law_word_for" (defScope (top 28)) s.heap.objs.size (a 16) cdv)) := hr.mono hk
  exact (pss_one (rs_tryC rfl rfl sc__law_word_for.nd rfl (takes_of rfl rfl rfl rfl) (fun W pq xe t1 o1 => (rks_ret (rk_tup (rka_cons (rk_of re_str) (rka_cons (act _ _ _ _ _ t1) (rka_of ra_nil)))))) (HdsR.bare ⟨rfl, by decide, .inl T.gx_InvalidName⟩ (T.xm 50 (by decide)) (fun k ws d ea eo pq _ _ hz hd => (have T : Txt (gK g k ws d) mg base a fd := pinT T; (rks_of (rss_one (rs_ret (re_tup (ra_cons re_str (ra_cons re_str ra_nil)))))))) (HdsR.bare ⟨rfl, by decide, .inl T.gx_InvalidOperation⟩ (T.xm 52 (by decide)) (fun k ws d ea eo pq _ _ hz hd => (have T : Txt (gK g k ws d) mg base a fd := pinT T; (rks_of (rss_one (rs_ret (re_tup (ra_cons re_str (ra_cons re_str ra_nil)))))))) (HdsR.named (i := 1) rfl rfl ⟨rfl, by decide, .inl T.gx_InvalidNumber⟩ (T.xm 51 (by decide)) (suite_one (c0 := 51) (by decide) fun ws d ea eo pq hz hd => (have T : Txt (gK g 51 ws d) mg base a fd := pinT T; (rks_ret (rk_tup (rka_cons (rk_of re_str) (rka_cons (rk_of re_str) (rka_cons (rk_callB (rc_repr rfl (gd_m hr) (un100m hr)) rfl T.b_repr rfl (rka_cons (re_kept (i := 1) hz hd rfl rfl T.xf_InvalidNumber T.xn_InvalidNumber T.fl_InvalidNumber) (rka_of ra_nil))) (rka_of ra_nil)))))))) HdsR.nil)))))
theorem sc__law_names_right : FnScope ["sack", "near", "cell", "one", "other", "first", "last", "due"] ["sack"] (defScope (top 29)) := ⟨rfl, rfl, rfl, by decide +kernel, rfl, by decide +kernel, by decide +kernel⟩
def m__law_names_right : MS := (sSeq (sPar 3 4 (mCons (mCall F__law_word (mCons (mVar 0) (mCons (mCon (.int 8)) mNil))) (mCons (mCall F__law_word (mCons (mVar 0) (mCons (mCon (.int 8)) mNil))) mNil))) (sSeq (sPar 5 6 (mCons (mCall F_name_cell (mCons (mVar 3) mNil)) (mCons (mCall F_name_cell (mCons (mVar 4) mNil)) mNil))) (sSeq (sIf (mOr (mB (mBin (eqF true) (mVar 5) (mCall F__law_own_cell (mCons (mVar 3) mNil)))) (mOr (mB (mBin (eqF true) (mVar 6) (mCall F__law_own_cell (mCons (mVar 4) mNil)))) (mB (mBin (eqF true) (mCall F_cell_name (mCons (mVar 5) mNil)) (mVar 3))))) (sRet (mCon (.bool false))) sNil) (sSeq (sIf (mOr (mB (mBin (eqF true) (mBin (ordF .lt) (mVar 5) (mVar 6)) (mBin (ordF .lt) (mVar 3) (mVar 4)))) (mB (mBin (eqF true) (mBin (eqF false) (mVar 5) (mVar 6)) (mBin (eqF false) (mVar 3) (mVar 4))))) (sRet (mCon (.bool false))) sNil) (sSeq (sAsg (mBin (addF false) (mVar 5) (mCall F__law_any (mCons (mVar 0) (mCons (mLst false (mCons (mCon (.int 1)) (mCons (mNeg (mCon (.int 1))) (mCons (mCon (.int 27)) (mCons (mNeg (mCon (.int 27))) (mCons (mCon (.int 729)) (mCons (mCon (.int 531441)) (mCons (mCon (.int 14348907)) (mCons (mCon (.int 10460353203)) mNil))))))))) mNil)))) (tName 1)) (sSeq (sFor (mItS (mTup (mCons (mVar 1) (mCons (mCall F__law_pull (mCons (mVar 0) (mCons (mCon (.int 282429536481)) mNil))) (mCons (mBin (addF false) (mCon (.int 282429536480)) (mCall F__law_pull (mCons (mVar 0) (mCons (mCon (.int 3)) mNil)))) (mCons (mCon (.int 0)) mNil)))))) (tName 2) (sSeq (sAsg (mCall F__law_own_name (mCons (mVar 2) mNil)) (tName 7)) (sIf (mB (mBin (eqF true) (mLam F__law_word_for (mCall F_cell_name (mCons (mVar 2) mNil))) (mIf (mB (mBin (isNF true) (mVar 7) (mCon .none))) (mTup (mCons (mCon (.str "told")) (mCons (mVar 7) mNil))) (mTup (mCons (mCon (.str "raised")) (mCons (mCon (.str "number")) (mCons (mCB (reprF) (mCons (mVar 2) mNil)) mNil))))))) (sRet (mCon (.bool false))) sNil))) (sRet (mCon (.bool true)))))))))
def F__law_names_right : FnT := fnM 8 1 m__law_names_right
theorem ok__law_names_right (T : Txt g mg base a fd) : FnG P w g.K mg base 7 (a 17) (fd 17) ["sack"] (spF g F__law_names_right) := by
  obtain ⟨co, Pt, l1, l2, l3, l4⟩ := T.l__law_names_right
  exact fn_ok T.f__law_names_right sc__law_names_right fun cdv A outer s H E hr hc =>
  (rss_cons (rs_par rfl sc__law_names_right.nd (i := 3) (j := 4) rfl rfl (by decide) rfl rfl (ra_cons (re_call (takes_of rfl rfl rfl rfl) (ok__law_word T) (hr.mono (by decide)) rfl T.g__law_word T.f__law_word.kp T.n__law_word (ra_cons (re_var (i := 0)) (ra_cons re_int ra_nil))) (ra_cons (re_call (takes_of rfl rfl rfl rfl) (ok__law_word T) (hr.mono (by decide)) rfl T.g__law_word T.f__law_word.kp T.n__law_word (ra_cons (re_var (i := 0)) (ra_cons re_int ra_nil))) ra_nil)) rfl)
    (rss_cons (rs_par rfl sc__law_names_right.nd (i := 5) (j := 6) rfl rfl (by decide) rfl rfl (ra_cons (re_call (takes_of rfl rfl rfl rfl) (ok_name_cell T) (hr.mono (by decide)) rfl T.g_name_cell T.f_name_cell.kp T.n_name_cell (ra_cons (re_var (i := 3)) ra_nil)) (ra_cons (re_call (takes_of rfl rfl rfl rfl) (ok_name_cell T) (hr.mono (by decide)) rfl T.g_name_cell T.f_name_cell.kp T.n_name_cell (ra_cons (re_var (i := 4)) ra_nil)) ra_nil)) rfl)
    (rss_cons (rs_if (PW.pt (rw_or (rt_cmp (ro_ne rfl (un100 hr)) (re_var (i := 5)) (re_call (takes_of rfl rfl rfl rfl) (ok__law_own_cell T) (hr.mono (by decide)) rfl T.g__law_own_cell T.f__law_own_cell.kp T.n__law_own_cell (ra_cons (re_var (i := 3)) ra_nil))) (rw_or (rt_cmp (ro_ne rfl (un100 hr)) (re_var (i := 6)) (re_call (takes_of rfl rfl rfl rfl) (ok__law_own_cell T) (hr.mono (by decide)) rfl T.g__law_own_cell T.f__law_own_cell.kp T.n__law_own_cell (ra_cons (re_var (i := 4)) ra_nil))) (rw_or1 (rt_cmp (ro_ne rfl (un100 hr)) (re_call (takes_of rfl rfl rfl rfl) (ok_cell_name T) (hr.mono (by decide)) rfl T.g_cell_name T.f_cell_name.kp T.n_cell_name (ra_cons (re_var (i := 5)) ra_nil)) (re_var (i := 3))))))) (rss_one (rs_ret re_bl)) rss_nil)
    (rss_cons (rs_if (PW.pt (rw_or (rt_cmp (ro_ne rfl (un100 hr)) (re_cmp (ro_ord .lt rfl (un100 hr)) (re_var (i := 5)) (re_var (i := 6))) (re_cmp (ro_ord .lt rfl (un100 hr)) (re_var (i := 3)) (re_var (i := 4)))) (rw_or1 (rt_cmp (ro_ne rfl (un100 hr)) (re_cmp (ro_eq rfl (un100 hr)) (re_var (i := 5)) (re_var (i := 6))) (re_cmp (ro_eq rfl (un100 hr)) (re_var (i := 3)) (re_var (i := 4))))))) (rss_one (rs_ret re_bl)) rss_nil)
    (rss_cons (rs_set sc__law_names_right.nd (re_bin (ro_add rfl) (re_var (i := 5)) (re_call (takes_of rfl rfl rfl rfl) (ok__law_any T) (hr.mono (by decide)) rfl T.g__law_any T.f__law_any.kp T.n__law_any (ra_cons (re_var (i := 0)) (ra_cons (re_lst (k := false) (ra_cons re_int (ra_cons (re_neg re_int) (ra_cons re_int (ra_cons (re_neg re_int) (ra_cons re_int (ra_cons re_int (ra_cons re_int (ra_cons re_int ra_nil))))))))) ra_nil)))))
    (rss_cons (rs_for (passes_of rfl) rfl (ri_all rfl (re_tup (ra_cons (re_var (i := 1)) (ra_cons (re_call (takes_of rfl rfl rfl rfl) (ok__law_pull T) (hr.mono (by decide)) rfl T.g__law_pull T.f__law_pull.kp T.n__law_pull (ra_cons (re_var (i := 0)) (ra_cons re_int ra_nil))) (ra_cons (re_bin (ro_add rfl) re_int (re_call (takes_of rfl rfl rfl rfl) (ok__law_pull T) (hr.mono (by decide)) rfl T.g__law_pull T.f__law_pull.kp T.n__law_pull (ra_cons (re_var (i := 0)) (ra_cons re_int ra_nil)))) (ra_cons re_int ra_nil)))))) (rg_name (i := 2) sc__law_names_right.nd) (rss_cons (rs_set sc__law_names_right.nd (re_call (takes_of rfl rfl rfl rfl) (ok__law_own_name T) (hr.mono (by decide)) rfl T.g__law_own_name T.f__law_own_name.kp T.n__law_own_name (ra_cons (re_var (i := 2)) ra_nil)))
    (rss_one (rs_if (rt_cmp (ro_ne rfl (un100 hr)) (re_lam (k := 5) (takes_of rfl rfl rfl rfl) rfl rfl T.g__law_word_for T.f__law_word_for sc__law_word_for T.n__law_word_for rfl (fun P1 hP1 cdv A outer s H E fv lam hr act => lm__law_word_for (pinT T) hr (by decide) act) l2 (hc.symm.trans l1) l3 l4 (hr.mono (by decide)) (LamX.lamS_by (sc := defScope (top 29)) (by decide +kernel)) rfl (fun _ _ _ _ _ => rfl) (fun A outer s H E f9 c9 hr => (re_call (takes_of rfl rfl rfl rfl) (ok_cell_name T) (hr.mono (by decide)) rfl T.g_cell_name T.f_cell_name.kp T.n_cell_name (ra_cons (re_var (i := 2)) ra_nil))) (by decide)) (re_ife (rt_cmp ro_notN (re_var (i := 7)) re_non) (re_tup (ra_cons re_str (ra_cons (re_var (i := 7)) ra_nil))) (re_tup (ra_cons re_str (ra_cons re_str (ra_cons (re_callB (rc_repr rfl hr.gd (un100 hr)) rfl T.b_repr rfl (ra_cons (re_var (i := 2)) ra_nil)) ra_nil)))))) (rss_one (rs_ret re_bl)) rss_nil))))
    (rss_one (rs_ret re_bl))))))))
theorem sc__law_paths_right : FnScope ["sack", "path", "other", "odd", "bad", "worst", "turn"] ["sack"] (defScope (top 30)) := ⟨rfl, rfl, rfl, by decide +kernel, rfl, by decide +kernel, by decide +kernel⟩
def m__law_paths_right : MS := (sSeq (sAsg (mCB (tupleF) (mCons (mComp false (mRng1 (mCons (mCall F__law_pull (mCons (mVar 0) (mCons (mCon (.int 9)) mNil))) mNil)) [6] (tName 6) mYes (mCall F__law_word (mCons (mVar 0) (mCons (mCon (.int 3)) mNil)))) mNil)) (tName 1)) (sSeq (sAsg (mBin (addF false) (mSl (slF false) (mVar 1) mNoPart (mPart (mCall F__law_pull (mCons (mVar 0) (mCons (mBin (addF false) (mCB (un lenW) (mCons (mVar 1) mNil)) (mCon (.int 1))) mNil))))) (mCB (tupleF) (mCons (mComp false (mRng1 (mCons (mCall F__law_pull (mCons (mVar 0) (mCons (mCon (.int 3)) mNil))) mNil)) [6] (tName 6) mYes (mCall F__law_word (mCons (mVar 0) (mCons (mCon (.int 1)) mNil)))) mNil))) (tName 2)) (sSeq (sIf (mOr (mNot (mTru (mCall F_is_path (mCons (mVar 1) mNil)))) (mOr (mB (mBin (eqF true) (mCall F_is_path (mCons (mVar 2) mNil)) (mBin (ordF .lt) (mCB (un lenW) (mCons (mVar 2) mNil)) (mCon (.int 9))))) (mTru (mCall F_is_path (mCons (mBin (addF false) (mVar 1) (mBin (mulF false) (mTup (mCons (mCon (.str "a")) mNil)) (mCon (.int 9)))) mNil))))) (sRet (mCon (.bool false))) sNil) (sSeq (sIf (mAnd (mB (mBin (ordF .lt) (mCB (un lenW) (mCons (mVar 2) mNil)) (mCon (.int 9)))) (mB (mBin (eqF true) (mCall F_is_within (mCons (mVar 2) (mCons (mVar 1) mNil))) (mBin eqAF (mSl (slF false) (mVar 1) mNoPart (mPart (mCB (un lenW) (mCons (mVar 2) mNil)))) (mVar 2))))) (sRet (mCon (.bool false))) sNil) (sSeq (sIf (mAnd (mB (mBin (ordF .lt) (mCB (un lenW) (mCons (mVar 2) mNil)) (mCon (.int 9)))) (mB (mBin (eqF true) (mCall F_is_within (mCons (mVar 1) (mCons (mVar 2) mNil))) (mBin eqAF (mSl (slF false) (mVar 2) mNoPart (mPart (mCB (un lenW) (mCons (mVar 1) mNil)))) (mVar 1))))) (sRet (mCon (.bool false))) sNil) (sSeq (sIf (mB (mBin (eqF true) (mLam F__law_word_for (mCall F_parent_of (mCons (mVar 1) mNil))) (mIf (mB (mBin (eqF true) (mVar 1) (mTup mNil))) (mTup (mCons (mCon (.str "told")) (mCons (mSl (slF false) (mVar 1) mNoPart (mPart (mNeg (mCon (.int 1))))) mNil))) (mTup (mCons (mCon (.str "raised")) (mCons (mCon (.str "operation")) mNil)))))) (sRet (mCon (.bool false))) sNil) (sSeq (sAsg (mCall F__law_any (mCons (mVar 0) (mCons (mLst false (mCons (mCon .none) (mCons (mCon (.int 0)) (mCons (mCon (.str "")) (mCons (mCon (.str "A")) (mCons (mCon (.str "ab1")) (mCons (mCon (.str "abcdefghi")) (mCons (mTup (mCons (mCon (.str "a")) mNil)) (mCons (mLst false (mCons (mCon (.str "a")) mNil)) (mCons (mCon (.bool true)) (mCons (mCon (.str "a b")) (mCons (mDic0 false) (mCons (mCon (.int 1)) mNil))))))))))))) mNil))) (tName 3)) (sSeq (sIf (mOr (mTru (mCall F_is_name (mCons (mVar 3) mNil))) (mOr (mTru (mCall F_is_path (mCons (mTup (mCons (mVar 3) mNil)) mNil))) (mOr (mTru (mCall F_is_path (mCons (mLst false (mCons (mVar 3) mNil)) mNil))) (mB (mBin (eqF true) (mCall F_is_within (mCons (mTup mNil) (mCons (mVar 3) mNil))) (mBin eqAF (mVar 3) (mTup (mCons (mCon (.str "a")) mNil)))))))) (sRet (mCon (.bool false))) sNil) (sSeq (sIf (mB (mBin (eqF true) (mLam F__law_word_for (mCall F_name_cell (mCons (mVar 3) mNil))) (mTup (mCons (mCon (.str "raised")) (mCons (mCon (.str "name")) mNil))))) (sRet (mCon (.bool false))) sNil) (sSeq (sAsg (mCall F__law_any (mCons (mVar 0) (mCons (mLst false (mCons (mCon .none) (mCons (mCon (.int 0)) (mCons (mCon (.str "a")) (mCons (mLst false (mCons (mCon (.str "a")) mNil)) (mCons (mTup (mCons (mCon (.str "a")) (mCons (mCon (.str "B")) mNil))) (mCons (mTup (mCons (mCon (.int 1)) mNil)) (mCons (mBin (mulF false) (mTup (mCons (mCon (.str "a")) mNil)) (mCon (.int 9))) (mCons (mDic0 false) (mCons (mTup (mCons (mCon (.str "")) mNil)) (mCons (mTup (mCons (mTup (mCons (mCon (.str "a")) mNil)) mNil)) mNil))))))))))) mNil))) (tName 4)) (sSeq (sIf (mB (mBin (eqF true) (mLam F__law_word_for (mCall F_parent_of (mCons (mVar 4) mNil))) (mTup (mCons (mCon (.str "raised")) (mCons (mCon (.str "name")) mNil))))) (sRet (mCon (.bool false))) sNil) (sSeq (sIf (mB (mBin (eqF true) (mLam F__law_word_for (mCall F_is_within (mCons (mVar 4) (mCons (mTup mNil) mNil)))) (mTup (mCons (mCon (.str "raised")) (mCons (mCon (.str "name")) mNil))))) (sRet (mCon (.bool false))) sNil) (sSeq (sAsg (mCall F__law_any (mCons (mVar 0) (mCons (mLst false (mCons (mCon .none) (mCons (mNeg (mCon (.int 1))) (mCons (mCon (.bool true)) (mCons (mCon (.str "1")) (mCons (mBin powF (mCon (.int 10)) (mCon (.int 18))) (mCons (mCon (.int 282429536481)) (mCons (mTup (mCons (mCon (.int 1)) mNil)) (mCons (mBin powF (mCon (.int 10)) (mCon (.int 60))) mNil))))))))) mNil))) (tName 5)) (sRet (mBin eqAF (mLam F__law_word_for (mCall F_cell_name (mCons (mVar 5) mNil))) (mTup (mCons (mCon (.str "raised")) (mCons (mCon (.str "number")) (mCons (mCB (reprF) (mCons (mVar 5) mNil)) mNil)))))))))))))))))))
def F__law_paths_right : FnT := fnM 7 1 m__law_paths_right
theorem ok__law_paths_right (T : Txt g mg base a fd) : FnG P w g.K mg base 7 (a 18) (fd 18) ["sack"] (spF g F__law_paths_right) := by
  obtain ⟨co, Pt, l1, l2, l3, l4⟩ := T.l__law_paths_right
  exact fn_ok T.f__law_paths_right sc__law_paths_right fun cdv A outer s H E hr hc =>
  (rss_cons (rs_set sc__law_paths_right.nd (re_callTy (rc_tuple rfl) rfl T.b_tuple rfl (ra_cons (re_lc (k := false) rfl sc__law_paths_right.nd (own := [("turn", 6)]) (blkOk_by (by rfl)) (ri_range1 rfl T.b_range (ra_cons (re_call (takes_of rfl rfl rfl rfl) (ok__law_pull T) (hr.mono (by decide)) rfl T.g__law_pull T.f__law_pull.kp T.n__law_pull (ra_cons (re_var (i := 0)) (ra_cons re_int ra_nil))) ra_nil)) (fun s H C cl fp => (rc_name (i := 6) sc__law_paths_right.nd)) (fun s H C cl fp => rts_nil) (fun s H C cl fp => (re_call takes0 (ok__law_word T) (hr.mono (by decide)) rfl T.g__law_word T.f__law_word.kp T.n__law_word (ra_cons (re_var (i := 0)) (ra_cons re_int ra_nil))))) ra_nil)))
    (rss_cons (rs_set sc__law_paths_right.nd (re_bin (ro_add rfl) (re_sl (slr rfl) (re_var (i := 1)) ro_noPart (ro_part (re_call (takes_of rfl rfl rfl rfl) (ok__law_pull T) (hr.mono (by decide)) rfl T.g__law_pull T.f__law_pull.kp T.n__law_pull (ra_cons (re_var (i := 0)) (ra_cons (re_bin (ro_add rfl) (re_callB (rc_len rfl) rfl T.b_len rfl (ra_cons (re_var (i := 1)) ra_nil)) re_int) ra_nil))))) (re_callTy (rc_tuple rfl) rfl T.b_tuple rfl (ra_cons (re_lc (k := false) rfl sc__law_paths_right.nd (own := [("turn", 6)]) (blkOk_by (by rfl)) (ri_range1 rfl T.b_range (ra_cons (re_call (takes_of rfl rfl rfl rfl) (ok__law_pull T) (hr.mono (by decide)) rfl T.g__law_pull T.f__law_pull.kp T.n__law_pull (ra_cons (re_var (i := 0)) (ra_cons re_int ra_nil))) ra_nil)) (fun s H C cl fp => (rc_name (i := 6) sc__law_paths_right.nd)) (fun s H C cl fp => rts_nil) (fun s H C cl fp => (re_call takes0 (ok__law_word T) (hr.mono (by decide)) rfl T.g__law_word T.f__law_word.kp T.n__law_word (ra_cons (re_var (i := 0)) (ra_cons re_int ra_nil))))) ra_nil))))
    (rss_cons (rs_if (PW.pt (rw_or (rt_not (rt_tru rfl (re_call (takes_of rfl rfl rfl rfl) (ok_is_path T) (hr.mono (by decide)) rfl T.g_is_path T.f_is_path.kp T.n_is_path (ra_cons (re_var (i := 1)) ra_nil)))) (rw_or (rt_cmp (ro_ne rfl (un100 hr)) (re_call (takes_of rfl rfl rfl rfl) (ok_is_path T) (hr.mono (by decide)) rfl T.g_is_path T.f_is_path.kp T.n_is_path (ra_cons (re_var (i := 2)) ra_nil)) (re_cmp (ro_ord .lt rfl (un100 hr)) (re_callB (rc_len rfl) rfl T.b_len rfl (ra_cons (re_var (i := 2)) ra_nil)) re_int)) (rw_or1 (rt_tru rfl (re_call (takes_of rfl rfl rfl rfl) (ok_is_path T) (hr.mono (by decide)) rfl T.g_is_path T.f_is_path.kp T.n_is_path (ra_cons (re_bin (ro_add rfl) (re_var (i := 1)) (re_bin (ro_mul rfl) (re_tup (ra_cons re_str ra_nil)) re_int)) ra_nil))))))) (rss_one (rs_ret re_bl)) rss_nil)
    (rss_cons (rs_if (PW.pt (rw_and (rt_cmp (ro_ord .lt rfl (un100 hr)) (re_callB (rc_len rfl) rfl T.b_len rfl (ra_cons (re_var (i := 2)) ra_nil)) re_int) (rw_and1 (rt_cmp (ro_ne rfl (un100 hr)) (re_call (takes_of rfl rfl rfl rfl) (ok_is_within T) (hr.mono (by decide)) rfl T.g_is_within T.f_is_within.kp T.n_is_within (ra_cons (re_var (i := 2)) (ra_cons (re_var (i := 1)) ra_nil))) (re_cmp (ro_eqA rfl (un100 hr)) (re_sl (slr rfl) (re_var (i := 1)) ro_noPart (ro_part (re_callB (rc_len rfl) rfl T.b_len rfl (ra_cons (re_var (i := 2)) ra_nil)))) (re_var (i := 2))))))) (rss_one (rs_ret re_bl)) rss_nil)
    (rss_cons (rs_if (PW.pt (rw_and (rt_cmp (ro_ord .lt rfl (un100 hr)) (re_callB (rc_len rfl) rfl T.b_len rfl (ra_cons (re_var (i := 2)) ra_nil)) re_int) (rw_and1 (rt_cmp (ro_ne rfl (un100 hr)) (re_call (takes_of rfl rfl rfl rfl) (ok_is_within T) (hr.mono (by decide)) rfl T.g_is_within T.f_is_within.kp T.n_is_within (ra_cons (re_var (i := 1)) (ra_cons (re_var (i := 2)) ra_nil))) (re_cmp (ro_eqA rfl (un100 hr)) (re_sl (slr rfl) (re_var (i := 2)) ro_noPart (ro_part (re_callB (rc_len rfl) rfl T.b_len rfl (ra_cons (re_var (i := 1)) ra_nil)))) (re_var (i := 1))))))) (rss_one (rs_ret re_bl)) rss_nil)
    (rss_cons (rs_if (rt_cmp (ro_ne rfl (un100 hr)) (re_lam (k := 5) (takes_of rfl rfl rfl rfl) rfl rfl T.g__law_word_for T.f__law_word_for sc__law_word_for T.n__law_word_for rfl (fun P1 hP1 cdv A outer s H E fv lam hr act => lm__law_word_for (pinT T) hr (by decide) act) l2 (hc.symm.trans l1) l3 l4 (hr.mono (by decide)) (LamX.lamS_by (sc := defScope (top 30)) (by decide +kernel)) rfl (fun _ _ _ _ _ => rfl) (fun A outer s H E f9 c9 hr => (re_call (takes_of rfl rfl rfl rfl) (ok_parent_of T) (hr.mono (by decide)) rfl T.g_parent_of T.f_parent_of.kp T.n_parent_of (ra_cons (re_var (i := 1)) ra_nil))) (by decide)) (re_ife (rt_cmp (ro_ne rfl (un100 hr)) (re_var (i := 1)) (re_tup ra_nil)) (re_tup (ra_cons re_str (ra_cons (re_sl (slr rfl) (re_var (i := 1)) ro_noPart (ro_part (re_neg re_int))) ra_nil))) (re_tup (ra_cons re_str (ra_cons re_str ra_nil))))) (rss_one (rs_ret re_bl)) rss_nil)
    (rss_cons (rs_set sc__law_paths_right.nd (re_call (takes_of rfl rfl rfl rfl) (ok__law_any T) (hr.mono (by decide)) rfl T.g__law_any T.f__law_any.kp T.n__law_any (ra_cons (re_var (i := 0)) (ra_cons (re_lst (k := false) (ra_cons re_non (ra_cons re_int (ra_cons re_str (ra_cons re_str (ra_cons re_str (ra_cons re_str (ra_cons (re_tup (ra_cons re_str ra_nil)) (ra_cons (re_lst (k := false) (ra_cons re_str ra_nil)) (ra_cons re_bl (ra_cons re_str (ra_cons (re_dic0 (k := false)) (ra_cons re_int ra_nil))))))))))))) ra_nil))))
    (rss_cons (rs_if (PW.pt (rw_or (rt_tru rfl (re_call (takes_of rfl rfl rfl rfl) (ok_is_name T) (hr.mono (by decide)) rfl T.g_is_name T.f_is_name.kp T.n_is_name (ra_cons (re_var (i := 3)) ra_nil))) (rw_or (rt_tru rfl (re_call (takes_of rfl rfl rfl rfl) (ok_is_path T) (hr.mono (by decide)) rfl T.g_is_path T.f_is_path.kp T.n_is_path (ra_cons (re_tup (ra_cons (re_var (i := 3)) ra_nil)) ra_nil))) (rw_or (rt_tru rfl (re_call (takes_of rfl rfl rfl rfl) (ok_is_path T) (hr.mono (by decide)) rfl T.g_is_path T.f_is_path.kp T.n_is_path (ra_cons (re_lst (k := false) (ra_cons (re_var (i := 3)) ra_nil)) ra_nil))) (rw_or1 (rt_cmp (ro_ne rfl (un100 hr)) (re_call (takes_of rfl rfl rfl rfl) (ok_is_within T) (hr.mono (by decide)) rfl T.g_is_within T.f_is_within.kp T.n_is_within (ra_cons (re_tup ra_nil) (ra_cons (re_var (i := 3)) ra_nil))) (re_cmp (ro_eqA rfl (un100 hr)) (re_var (i := 3)) (re_tup (ra_cons re_str ra_nil))))))))) (rss_one (rs_ret re_bl)) rss_nil)
    (rss_cons (rs_if (rt_cmp (ro_ne rfl (un100 hr)) (re_lam (k := 3) (takes_of rfl rfl rfl rfl) rfl rfl T.g__law_word_for T.f__law_word_for sc__law_word_for T.n__law_word_for rfl (fun P1 hP1 cdv A outer s H E fv lam hr act => lm__law_word_for (pinT T) hr (by decide) act) l2 (hc.symm.trans l1) l3 l4 (hr.mono (by decide)) (LamX.lamS_by (sc := defScope (top 30)) (by decide +kernel)) rfl (fun _ _ _ _ _ => rfl) (fun A outer s H E f9 c9 hr => (re_call (takes_of rfl rfl rfl rfl) (ok_name_cell T) (hr.mono (by decide)) rfl T.g_name_cell T.f_name_cell.kp T.n_name_cell (ra_cons (re_var (i := 3)) ra_nil))) (by decide)) (re_tup (ra_cons re_str (ra_cons re_str ra_nil)))) (rss_one (rs_ret re_bl)) rss_nil)
    (rss_cons (rs_set sc__law_paths_right.nd (re_call (takes_of rfl rfl rfl rfl) (ok__law_any T) (hr.mono (by decide)) rfl T.g__law_any T.f__law_any.kp T.n__law_any (ra_cons (re_var (i := 0)) (ra_cons (re_lst (k := false) (ra_cons re_non (ra_cons re_int (ra_cons re_str (ra_cons (re_lst (k := false) (ra_cons re_str ra_nil)) (ra_cons (re_tup (ra_cons re_str (ra_cons re_str ra_nil))) (ra_cons (re_tup (ra_cons re_int ra_nil)) (ra_cons (re_bin (ro_mul rfl) (re_tup (ra_cons re_str ra_nil)) re_int) (ra_cons (re_dic0 (k := false)) (ra_cons (re_tup (ra_cons re_str ra_nil)) (ra_cons (re_tup (ra_cons (re_tup (ra_cons re_str ra_nil)) ra_nil)) ra_nil))))))))))) ra_nil))))
    (rss_cons (rs_if (rt_cmp (ro_ne rfl (un100 hr)) (re_lam (k := 5) (takes_of rfl rfl rfl rfl) rfl rfl T.g__law_word_for T.f__law_word_for sc__law_word_for T.n__law_word_for rfl (fun P1 hP1 cdv A outer s H E fv lam hr act => lm__law_word_for (pinT T) hr (by decide) act) l2 (hc.symm.trans l1) l3 l4 (hr.mono (by decide)) (LamX.lamS_by (sc := defScope (top 30)) (by decide +kernel)) rfl (fun _ _ _ _ _ => rfl) (fun A outer s H E f9 c9 hr => (re_call (takes_of rfl rfl rfl rfl) (ok_parent_of T) (hr.mono (by decide)) rfl T.g_parent_of T.f_parent_of.kp T.n_parent_of (ra_cons (re_var (i := 4)) ra_nil))) (by decide)) (re_tup (ra_cons re_str (ra_cons re_str ra_nil)))) (rss_one (rs_ret re_bl)) rss_nil)
    (rss_cons (rs_if (rt_cmp (ro_ne rfl (un100 hr)) (re_lam (k := 5) (takes_of rfl rfl rfl rfl) rfl rfl T.g__law_word_for T.f__law_word_for sc__law_word_for T.n__law_word_for rfl (fun P1 hP1 cdv A outer s H E fv lam hr act => lm__law_word_for (pinT T) hr (by decide) act) l2 (hc.symm.trans l1) l3 l4 (hr.mono (by decide)) (LamX.lamS_by (sc := defScope (top 30)) (by decide +kernel)) rfl (fun _ _ _ _ _ => rfl) (fun A outer s H E f9 c9 hr => (re_call (takes_of rfl rfl rfl rfl) (ok_is_within T) (hr.mono (by decide)) rfl T.g_is_within T.f_is_within.kp T.n_is_within (ra_cons (re_var (i := 4)) (ra_cons (re_tup ra_nil) ra_nil)))) (by decide)) (re_tup (ra_cons re_str (ra_cons re_str ra_nil)))) (rss_one (rs_ret re_bl)) rss_nil)
    (rss_cons (rs_set sc__law_paths_right.nd (re_call (takes_of rfl rfl rfl rfl) (ok__law_any T) (hr.mono (by decide)) rfl T.g__law_any T.f__law_any.kp T.n__law_any (ra_cons (re_var (i := 0)) (ra_cons (re_lst (k := false) (ra_cons re_non (ra_cons (re_neg re_int) (ra_cons re_bl (ra_cons re_str (ra_cons (re_bin ro_pow re_int re_int) (ra_cons re_int (ra_cons (re_tup (ra_cons re_int ra_nil)) (ra_cons (re_bin ro_pow re_int re_int) ra_nil))))))))) ra_nil))))
    (rss_one (rs_ret (re_cmp (ro_eqA rfl (un100 hr)) (re_lam (k := 5) (takes_of rfl rfl rfl rfl) rfl rfl T.g__law_word_for T.f__law_word_for sc__law_word_for T.n__law_word_for rfl (fun P1 hP1 cdv A outer s H E fv lam hr act => lm__law_word_for (pinT T) hr (by decide) act) l2 (hc.symm.trans l1) l3 l4 (hr.mono (by decide)) (LamX.lamS_by (sc := defScope (top 30)) (by decide +kernel)) rfl (fun _ _ _ _ _ => rfl) (fun A outer s H E f9 c9 hr => (re_call (takes_of rfl rfl rfl rfl) (ok_cell_name T) (hr.mono (by decide)) rfl T.g_cell_name T.f_cell_name.kp T.n_cell_name (ra_cons (re_var (i := 5)) ra_nil))) (by decide)) (re_tup (ra_cons re_str (ra_cons re_str (ra_cons (re_callB (rc_repr rfl hr.gd (un100 hr)) rfl T.b_repr rfl (ra_cons (re_var (i := 5)) ra_nil)) ra_nil))))))))))))))))))))
theorem sc_law : FnScope ["script", "spot", "some", "sack", "value"] ["script"] (defScope (top 31)) := ⟨rfl, rfl, rfl, by decide +kernel, rfl, by decide +kernel, by decide +kernel⟩
def m_law : MS := (sSeq (sFor (mRng1 (mCons (mCB (max2F) (mCons (mCon (.int 1)) (mCons (mCB (min2F) (mCons (mCon (.int 4)) (mCons (mCB (un lenW) (mCons (mVar 0) mNil)) mNil))) mNil))) mNil)) (tName 1) (sSeq (sAsg (mCall F__law_sack (mCons (mVar 0) (mCons (mVar 1) mNil))) (tName 3)) (sIf (mOr (mNot (mTru (mCall F__law_names_right (mCons (mVar 3) mNil)))) (mOr (mNot (mTru (mCall F__law_paths_right (mCons (mVar 3) mNil)))) (mNot (mTru (mCall F__law_names_right (mCons (mVar 3) mNil)))))) (sRet (mCon (.bool false))) sNil))) (sSeq (sAsg (mLst false (mCons (mCon (.int 0)) (mCons (mBin subF (mBin powF (mCon (.int 10)) (mCon (.int 18))) (mCon (.int 1))) (mCons (mBin powF (mCon (.int 10)) (mCon (.int 18))) (mCons (mNeg (mCon (.int 1))) (mCons (mCon (.bool true)) (mCons (mCon (.bool false)) (mCons (mCon .none) (mCons (mCon (.str "1")) (mCons (mTup (mCons (mCon (.int 1)) mNil)) (mCons (mCon (.int 5)) mNil))))))))))) (tName 2)) (sSeq (sIf (mB (mBin (eqF true) (mComp false (mItS (mVar 2)) [4] (tName 4) mYes (mCall F_is_cell (mCons (mVar 4) mNil))) (mLst false (mCons (mCon (.bool true)) (mCons (mCon (.bool true)) (mCons (mCon (.bool false)) (mCons (mCon (.bool false)) (mCons (mCon (.bool false)) (mCons (mCon (.bool false)) (mCons (mCon (.bool false)) (mCons (mCon (.bool false)) (mCons (mCon (.bool false)) (mCons (mCon (.bool true)) mNil))))))))))))) (sRet (mCon (.bool false))) sNil) (sRet (mBin (eqF false) (mLst false (mCons (mCall F_name_cell (mCons (mCon (.str "a")) mNil)) (mCons (mCall F_name_cell (mCons (mCon (.str "zzzzzzzz")) mNil)) (mCons (mCall F_is_within (mCons (mTup (mCons (mCon (.str "a")) mNil)) (mCons (mTup (mCons (mCon (.str "ab")) mNil)) mNil))) mNil)))) (mLst false (mCons (mCon (.int 10460353203)) (mCons (mCon (.int 282429536480)) (mCons (mCon (.bool false)) mNil)))))))))
def F_law : FnT := fnM 5 1 m_law
theorem ok_law (T : Txt g mg base a fd) : FnG P w g.K mg base 8 (a 19) (fd 19) ["script"] (spF g F_law) := fn_ok T.f_law sc_law fun cdv A outer s H E hr hc =>
  (rss_cons (rs_for (passes_of rfl) rfl (ri_range1 rfl T.b_range (ra_cons (re_callB (rc_max2 rfl) rfl T.b_max rfl (ra_cons re_int (ra_cons (re_callB (rc_min2 rfl) rfl T.b_min rfl (ra_cons re_int (ra_cons (re_callB (rc_len rfl) rfl T.b_len rfl (ra_cons (re_var (i := 0)) ra_nil)) ra_nil))) ra_nil))) ra_nil)) (rg_name (i := 1) sc_law.nd) (rss_cons (rs_set sc_law.nd (re_call (takes_of rfl rfl rfl rfl) (ok__law_sack T) (hr.mono (by decide)) rfl T.g__law_sack T.f__law_sack.kp T.n__law_sack (ra_cons (re_var (i := 0)) (ra_cons (re_var (i := 1)) ra_nil))))
    (rss_one (rs_if (PW.pt (rw_or (rt_not (rt_tru rfl (re_call (takes_of rfl rfl rfl rfl) (ok__law_names_right T) (hr.mono (by decide)) rfl T.g__law_names_right T.f__law_names_right.kp T.n__law_names_right (ra_cons (re_var (i := 3)) ra_nil)))) (rw_or (rt_not (rt_tru rfl (re_call (takes_of rfl rfl rfl rfl) (ok__law_paths_right T) (hr.mono (by decide)) rfl T.g__law_paths_right T.f__law_paths_right.kp T.n__law_paths_right (ra_cons (re_var (i := 3)) ra_nil)))) (rw_or1 (rt_not (rt_tru rfl (re_call (takes_of rfl rfl rfl rfl) (ok__law_names_right T) (hr.mono (by decide)) rfl T.g__law_names_right T.f__law_names_right.kp T.n__law_names_right (ra_cons (re_var (i := 3)) ra_nil)))))))) (rss_one (rs_ret re_bl)) rss_nil))))
    (rss_cons (rs_set sc_law.nd (re_lst (k := false) (ra_cons re_int (ra_cons (re_bin ro_sub (re_bin ro_pow re_int re_int) re_int) (ra_cons (re_bin ro_pow re_int re_int) (ra_cons (re_neg re_int) (ra_cons re_bl (ra_cons re_bl (ra_cons re_non (ra_cons re_str (ra_cons (re_tup (ra_cons re_int ra_nil)) (ra_cons re_int ra_nil))))))))))))
    (rss_cons (rs_if (rt_cmp (ro_ne rfl (un100 hr)) (re_lc (k := false) rfl sc_law.nd (own := [("value", 4)]) (blkOk_by (by rfl)) (ri_all rfl (re_var (i := 2))) (fun s H C cl fp => (rc_name (i := 4) sc_law.nd)) (fun s H C cl fp => rts_nil) (fun s H C cl fp => (re_call takes0 (ok_is_cell T) (hr.mono (by decide)) rfl T.g_is_cell T.f_is_cell.kp T.n_is_cell (ra_cons (re_var (i := 4)) ra_nil)))) (re_lst (k := false) (ra_cons re_bl (ra_cons re_bl (ra_cons re_bl (ra_cons re_bl (ra_cons re_bl (ra_cons re_bl (ra_cons re_bl (ra_cons re_bl (ra_cons re_bl (ra_cons re_bl ra_nil)))))))))))) (rss_one (rs_ret re_bl)) rss_nil)
    (rss_one (rs_ret (re_cmp (ro_eq rfl (un100 hr)) (re_lst (k := false) (ra_cons (re_call (takes_of rfl rfl rfl rfl) (ok_name_cell T) (hr.mono (by decide)) rfl T.g_name_cell T.f_name_cell.kp T.n_name_cell (ra_cons re_str ra_nil)) (ra_cons (re_call (takes_of rfl rfl rfl rfl) (ok_name_cell T) (hr.mono (by decide)) rfl T.g_name_cell T.f_name_cell.kp T.n_name_cell (ra_cons re_str ra_nil)) (ra_cons (re_call (takes_of rfl rfl rfl rfl) (ok_is_within T) (hr.mono (by decide)) rfl T.g_is_within T.f_is_within.kp T.n_is_within (ra_cons (re_tup (ra_cons re_str ra_nil)) (ra_cons (re_tup (ra_cons re_str ra_nil)) ra_nil))) ra_nil)))) (re_lst (k := false) (ra_cons re_int (ra_cons re_int (ra_cons re_bl ra_nil))))))))))
end

end V
namespace V
open PySem L2 PyProof.Rows Rf Nm

def isName : PyData → Bool
  | .str z => nameB z.cps.toList
  | _ => false
def shortS (d : PyData) : Prop := ∀ z, d = .str z → z.length ≤ 100000
theorem ev_is_name (bs : List Nat) (d : PyData) (S : Store) (h : shortS d) : F_is_name bs [.dat d] S = .ok (.bl (isName d)) S := by
  refine eq_of_wp ?_
  (unfold F_is_name m_is_name; refine Rf.wp_fn rfl ?_; simp only [Rf.startE, List.map_cons, List.map_nil, List.length_cons, List.length_nil, Nat.reduceAdd, Nat.reduceSub, List.replicate, List.cons_append, List.nil_append])
  cases d with
  | str z =>
    (repeat array_get_dec)
    refine len_str (h z rfl) ?_
    (repeat array_get_dec)
    have e := str_len z
    refine ifD (fun h1 => ?_) (fun h1 => ?_)
    · (repeat array_get_dec)
      refine ifN (fun h2 => ?_) (fun h2 => ?_)
      · (repeat array_get_dec)
        refine wp_compM (f := fun c => .dat (.str ⟨#[c]⟩)) (xs := z.cps.toList) (fun c => .dat (.bool (letB c))) (by have := h z rfl; omega) (fun c hc => ?_) ?_
        · (repeat array_get_dec)
          exact ⟨rfl, rfl⟩
        · (repeat array_get_dec)
          refine ⟨?_, rfl⟩
          have e1 : decide (1 ≤ z.cps.toList.length) = true := decide_eq_true (by omega)
          have e2 : decide (z.cps.toList.length ≤ 8) = true := decide_eq_true (by omega)
          simp only [isName, nameB, e1, e2, Bool.true_and]
      · (repeat array_get_dec)
        refine ⟨?_, rfl⟩
        have e2 : decide (z.cps.toList.length ≤ 8) = false := decide_eq_false (by omega)
        simp only [isName, nameB, e2, Bool.and_false, Bool.false_and]
    · (repeat array_get_dec)
      refine ⟨?_, rfl⟩
      have e2 : decide (1 ≤ z.cps.toList.length) = false := decide_eq_false (by omega)
      simp only [isName, nameB, e2, Bool.false_and]
  | _ =>
    (repeat array_get_dec)
    exact ⟨rfl, rfl⟩
theorem ev_is_name_sg (bs : List Nat) (l : List Nat) (S : Store) (h : l.length ≤ 100000) : F_is_name bs [.dat (.str (sg l))] S = .ok (.dat (.bool (nameB l))) S := by
  rw [ev_is_name bs (.str (sg l)) S (fun z e => by cases e; simpa using h)]
  simp [isName]
def isPath : PyData → Bool
  | .tuple ds => decide (ds.length ≤ 8) && ds.all isName
  | _ => false
def shortP : PyData → Prop
  | .tuple ds => ∀ d ∈ ds, shortS d
  | _ => True
theorem ev_is_path (bs : List Nat) (d : PyData) (S : Store) (h : shortP d) : F_is_path bs [.dat d] S = .ok (.bl (isPath d)) S := by
  refine eq_of_wp ?_
  (unfold F_is_path m_is_path; refine Rf.wp_fn rfl ?_; simp only [Rf.startE, List.map_cons, List.map_nil, List.length_cons, List.length_nil, Nat.reduceAdd, Nat.reduceSub, List.replicate, List.cons_append, List.nil_append])
  cases d with
  | tuple ds =>
    (repeat array_get_dec)
    refine ifD (fun h1 => ?_) (fun h1 => ?_)
    · (repeat array_get_dec)
      have e : decide (ds.length ≤ 8) = false := decide_eq_false (by omega)
      refine ⟨?_, rfl⟩
      simp only [isPath, e, Bool.false_and]
    · (repeat array_get_dec)
      refine wp_compM (f := fun d => .dat d) (xs := ds) (fun d => .dat (.bool (isName d))) (by omega) (fun d hd => ?_) ?_
      · (repeat array_get_dec)
        exact wp_eq (ev_is_name _ _ _ (h d hd)) ⟨rfl, rfl⟩
      · (repeat array_get_dec)
        have e : decide (ds.length ≤ 8) = true := decide_eq_true (by omega)
        refine ⟨?_, rfl⟩
        simp only [isPath, e, Bool.true_and]
  | _ =>
    (repeat array_get_dec)
    exact ⟨rfl, rfl⟩
theorem name_bits {l : List Nat} (h : nameB l = true) : 1 ≤ l.length ∧ l.length ≤ 8 ∧ l.all letB = true := by
  unfold nameB at h
  simp only [Bool.and_eq_true, decide_eq_true_eq] at h
  exact ⟨h.1.1, h.1.2, h.2⟩
theorem let_at {l : List Nat} (h : l.all letB = true) {k : Nat} (hk : k < l.length) : letB l[k] = true := List.all_eq_true.mp h _ (List.getElem_mem hk)
theorem figA_at {l : List Nat} {k : Nat} (hk : k < l.length) : figA l k = (l[k] : Int) - 96 := by unfold figA; rw [if_pos hk, getD_at hk]
theorem cells_succ (l : List Nat) (k : Nat) : (List.range (k + 1)).foldl (cellStep l) 0 = (List.range k).foldl (cellStep l) 0 * 27 + figA l k := by
  rw [List.range_succ, List.foldl_append]; rfl
theorem ev_name_cell (bs : List Nat) (l : List Nat) (S : Store) (h : nameB l = true) : F_name_cell bs [.dat (.str (sg l))] S = .ok (.dat (.int (cellOf l))) S := by
  obtain ⟨h1, h8, hl⟩ := name_bits h
  refine eq_of_wp ?_
  (unfold F_name_cell m_name_cell; refine Rf.wp_fn rfl ?_; simp only [Rf.startE, List.map_cons, List.map_nil, List.length_cons, List.length_nil, Nat.reduceAdd, Nat.reduceSub, List.replicate, List.cons_append, List.nil_append])
  (repeat array_get_dec)
  refine wp_eq (ev_is_name_sg _ _ _ (by omega)) ?_
  rw [h]
  (repeat array_get_dec)
  refine wp_range (fun k env S' => (∃ x y, env = [some (.dat (.str (sg l))), some (.dat (.int ((List.range k).foldl (cellStep l) 0))), x, y]) ∧ S' = S) ⟨⟨_, _, rfl⟩, rfl⟩ (fun k env S' hk ⟨⟨x, y, he⟩, hS⟩ => ?_) (fun env S' ⟨⟨x, y, he⟩, hS⟩ => ?_)
  · subst he hS
    (repeat array_get_dec)
    refine len_sg (by omega) ?_
    (repeat array_get_dec)
    refine ifD (fun hi => ?_) (fun hi => ?_)
    · (repeat array_get_dec)
      refine ix_sg (c := l[k]'(by omega)) (by omega) (atI_ofNat (List.getElem?_eq_getElem (by omega))) ?_
      (repeat array_get_dec)
      refine sind_alpha (let_at hl (by omega)) ?_
      (repeat array_get_dec)
      rw [cells_succ, figA_at (by omega), show (l[k]'(by omega) : Int) - 97 + 1 = (l[k]'(by omega) : Int) - 96 by omega]
      exact ⟨⟨_, _, rfl⟩, rfl⟩
    · (repeat array_get_dec)
      rw [cells_succ, show figA l k = 0 from if_neg (by omega)]
      exact ⟨⟨_, _, rfl⟩, rfl⟩
  · subst he hS
    (repeat array_get_dec)
    exact ⟨rfl, rfl⟩
end V

namespace V
open PySem L2 PyProof.Rows Rf Nm

theorem ev_letters (bs : List Nat) (c : Int) (S : Store) : F__letters_of bs [.dat (.int c)] S = .ok (.dat (.str (sg (letters c)))) S := by
  refine eq_of_wp ?_
  (unfold F__letters_of m__letters_of; refine Rf.wp_fn rfl ?_; simp only [Rf.startE, List.map_cons, List.map_nil, List.length_cons, List.length_nil, Nat.reduceAdd, Nat.reduceSub, List.replicate, List.cons_append, List.nil_append])
  (repeat array_get_dec)
  refine wp_range (fun k env S' => ∃ a left x y, (k ≤ 8 ∧ lo (8 - k) left a = lo 8 c [] ∧ a.length ≤ k) ∧ env = [some (.dat (.int c)), some (.dat (.str (sg a))), some (.dat (.int left)), x, y] ∧ S' = S) ?_ ?_ ?_
  · refine ⟨[], c, none, none, ⟨by omega, rfl, Nat.le_refl _⟩, ?_, rfl⟩
    rw [← empty_sg]; rfl
  · rintro k env S' hk ⟨a, left, x, y, ⟨h8, h1, h2⟩, rfl, rfl⟩
    have m0 : 0 ≤ left % 27 := Int.emod_nonneg _ (by decide)
    have m1 : left % 27 < 27 := Int.emod_lt_of_pos _ (by decide)
    have e : 8 - k = (8 - (k + 1)) + 1 := by omega
    rw [e] at h1
    unfold Nm.lo at h1
    (repeat array_get_dec)
    refine ifD (fun hp => ?_) (fun hp => ?_)
    · (repeat array_get_dec)
      refine ix_alpha (by omega) (by omega) ?_
      (repeat array_get_dec)
      refine add_sg (by simp; omega) ?_
      (repeat array_get_dec)
      rw [if_pos hp] at h1
      have e2 : (left % 27 - 1).toNat + 97 = (left % 27).toNat + 96 := by omega
      rw [e2]
      exact ⟨_, _, _, _, ⟨by omega, h1, by simp; omega⟩, rfl, rfl⟩
    · (repeat array_get_dec)
      rw [if_neg hp] at h1
      exact ⟨_, _, _, _, ⟨by omega, h1, by omega⟩, rfl, rfl⟩
  · rintro env S' ⟨a, left, x, y, ⟨_, h1, _⟩, rfl, rfl⟩
    (repeat array_get_dec)
    have e : a = letters c := congrArg Prod.fst h1
    exact ⟨by rw [e], rfl⟩
def optN : Option (List Nat) → PyData
  | some l => .str (sg l)
  | none => .none
theorem ev_name_of (bs : List Nat) (c : Int) (S : Store) : F_name_of_cell bs [.dat (.int c)] S = .ok (.dat (optN (nameOf c))) S := by
  have hl := lo_len 8 c []
  refine eq_of_wp ?_
  (unfold F_name_of_cell m_name_of_cell; refine Rf.wp_fn rfl ?_; simp only [Rf.startE, List.map_cons, List.map_nil, List.length_cons, List.length_nil, Nat.reduceAdd, Nat.reduceSub, List.replicate, List.cons_append, List.nil_append])
  (repeat array_get_dec)
  refine wp_eq (ev_letters _ _ _) ?_
  (repeat array_get_dec)
  refine wp_eq (ev_is_name_sg _ _ _ (by unfold letters; simp at hl; omega)) ?_
  (repeat array_get_dec)
  unfold nameOf
  by_cases h : letters c ≠ []
  · rw [letters_name h]
    (repeat array_get_dec)
    refine wp_eq (ev_name_cell _ _ _ (letters_name h)) ?_
    (repeat array_get_dec)
    refine ifD (fun h2 => ?_) (fun h2 => ?_)
    · (repeat array_get_dec)
      rw [if_pos ⟨h, h2⟩]
      exact ⟨rfl, rfl⟩
    · (repeat array_get_dec)
      rw [if_neg (fun z => h2 z.2)]
      exact ⟨rfl, rfl⟩
  · have h' : letters c = [] := by simpa using h
    rw [h', show nameB [] = false from rfl]
    (repeat array_get_dec)
    rw [if_neg (fun z => z.1 rfl)]
    exact ⟨rfl, rfl⟩
theorem ev_own_cell (bs : List Nat) (l : List Nat) (S : Store) (hl : l.all letB = true) (h8 : l.length ≤ 8) : F__law_own_cell bs [.dat (.str (sg l))] S = .ok (.dat (.int (cellOf l))) S := by
  refine eq_of_wp ?_
  (unfold F__law_own_cell m__law_own_cell; refine Rf.wp_fn rfl ?_; simp only [Rf.startE, List.map_cons, List.map_nil, List.length_cons, List.length_nil, Nat.reduceAdd, Nat.reduceSub, List.replicate, List.cons_append, List.nil_append])
  (repeat array_get_dec)
  refine wp_range (fun k env S' => (∃ y, env = [some (.dat (.str (sg l))), some (.dat (.int ((List.range k).foldl (cellStep l) 0))), y]) ∧ S' = S) ⟨⟨_, rfl⟩, rfl⟩ (fun k env S' hk ⟨⟨y, he⟩, hS⟩ => ?_) (fun env S' ⟨⟨y, he⟩, hS⟩ => ?_)
  · subst he hS
    (repeat array_get_dec)
    refine len_sg (by omega) ?_
    (repeat array_get_dec)
    refine ifD (fun hi => ?_) (fun hi => ?_)
    · (repeat array_get_dec)
      refine ix_sg (c := l[k]'(by omega)) (by omega) (atI_ofNat (List.getElem?_eq_getElem (by omega))) ?_
      (repeat array_get_dec)
      refine sind_alpha (let_at hl (by omega)) ?_
      (repeat array_get_dec)
      rw [cells_succ, figA_at (by omega), Int.mul_comm 27, show (l[k]'(by omega) : Int) - 97 + 1 = (l[k]'(by omega) : Int) - 96 by omega]
      exact ⟨⟨_, rfl⟩, rfl⟩
    · (repeat array_get_dec)
      rw [cells_succ, show figA l k = 0 from if_neg (by omega), Int.mul_comm 27]
      exact ⟨⟨_, rfl⟩, rfl⟩
  · subst he hS
    (repeat array_get_dec)
    exact ⟨rfl, rfl⟩
end V

namespace V
open PySem L2 PyProof.Rows Rf Nm

/-! ### digits: what is left, and their value -/
def valI (c : Int) (D : List Int) : Int := D.foldl (fun c d => c * 27 + d) c
theorem dg_val : ∀ (k : Nat) (c : Int) (acc : List Int), valI (dg k c acc).2 (dg k c acc).1 = valI c acc
  | 0, c, acc => rfl
  | k + 1, c, acc => by
    unfold dg
    rw [dg_val k]
    show valI (c / 27 * 27 + c % 27) acc = valI c acc
    rw [show c / 27 * 27 + c % 27 = c by omega]
theorem valI_val : ∀ (D : List Int) (c : Int), (∀ d ∈ D, 0 ≤ d ∧ d < 27) → valI c D = val c (D.map Int.toNat)
  | [], c, _ => rfl
  | d :: D, c, h => by
    have hd := h d (List.mem_cons_self ..)
    show valI (c * 27 + d) D = val c ((d :: D).map Int.toNat)
    rw [valI_val D _ fun x hx => h x (List.mem_cons_of_mem _ hx), List.map_cons]
    show val (c * 27 + d) _ = val (c * 27 + (d.toNat : Int)) _
    rw [show ((d.toNat : Nat) : Int) = d by omega]
/-- the figures that are above nought stand first -/
def frontB (D : List Int) : Bool := (D.take (D.filter fun d => decide (0 < d)).length).all fun d => decide (0 < d)
theorem front_split : ∀ (D : List Int), (∀ d ∈ D, 0 ≤ d) → frontB D = true → ∃ A n, D = A ++ List.replicate n 0 ∧ (∀ d ∈ A, 0 < d) ∧ (D.filter fun d => decide (0 < d)) = A ∧ D.take (D.filter fun d => decide (0 < d)).length = A
  | [], _, _ => ⟨[], 0, rfl, (fun _ z => nomatch z), rfl, rfl⟩
  | d :: D, h, f => by
    have h' : ∀ x ∈ D, 0 ≤ x := fun x hx => h x (List.mem_cons_of_mem _ hx)
    by_cases hd : 0 < d
    · have f' : frontB D = true := by
        unfold frontB at f ⊢
        rw [List.filter_cons, if_pos (by simpa using hd), List.length_cons, List.take_succ_cons, List.all_cons, Bool.and_eq_true] at f
        exact f.2
      obtain ⟨A, n, e1, e2, e3, e4⟩ := front_split D h' f'
      refine ⟨d :: A, n, by rw [e1]; rfl, ?_, ?_, ?_⟩
      · intro x hx
        rcases List.mem_cons.mp hx with z | z
        · subst z; exact hd
        · exact e2 x z
      · rw [List.filter_cons, if_pos (by simpa using hd), e3]
      · rw [List.filter_cons, if_pos (by simpa using hd), List.length_cons, List.take_succ_cons, e4]
    · have hz : d = 0 := by have := h d (List.mem_cons_self ..); omega
      subst hz
      cases hn : (D.filter fun d => decide (0 < d)) with
      | nil =>
        have hall : D = List.replicate D.length 0 := by
          refine List.eq_replicate_iff.mpr ⟨rfl, fun x hx => ?_⟩
          have h1 := h' x hx
          have h2 := List.filter_eq_nil_iff.mp hn x hx
          simp at h2; omega
        refine ⟨[], D.length + 1, ?_, (fun _ z => nomatch z), ?_, ?_⟩
        · rw [List.replicate_succ, ← hall]; rfl
        · rw [List.filter_cons, if_neg (by simp), hn]
        · rw [List.filter_cons, if_neg (by simp), hn]; rfl
      | cons y l =>
        unfold frontB at f
        rw [List.filter_cons, if_neg (by simp), hn, List.length_cons, List.take_succ_cons, List.all_cons] at f
        simp at f
theorem val_zeros : ∀ (n : Nat) (A : List Nat) (c : Int), val c (A ++ List.replicate n 0) = val c A * 27 ^ n
  | 0, A, c => by simp
  | n + 1, A, c => by
    rw [List.replicate_succ', ← List.append_assoc, val_snoc, val_zeros n, Int.pow_succ]
    simp [Int.mul_assoc]
theorem figs_front {l : List Nat} (h8 : l.length ≤ 8) : figs l = l.map (· - 96) ++ List.replicate (8 - l.length) 0 := by
  unfold figs
  apply List.ext_getElem
  · simp; omega
  · intro i h1 h2
    simp at h1
    rw [List.getElem_map, List.getElem_range]
    by_cases hi : i < l.length
    · rw [if_pos hi, List.getElem_append_left (by simpa using hi), List.getElem_map, getD_at hi]
    · rw [if_neg hi, List.getElem_append_right (by simp; omega), List.getElem_replicate]
/-- the law's own reading of a number that is not below nought -/
def ownName (c : Int) : Option (List Nat) :=
  let D := (dg 8 c []).1
  let n := (D.filter fun d => decide (0 < d)).length
  if 0 < (dg 8 c []).2 ∨ n = 0 ∨ frontB D = false then none else some ((D.take n).map fun d => d.toNat + 96)
theorem own_name {c : Int} (h : 0 ≤ c) : ownName c = nameOf c := by
  have hs := dg_small 8 c [] (fun d hd => nomatch hd)
  have hl := dg_len 8 c []
  have hv := dg_val 8 c []
  have el := letters_dg c
  unfold ownName
  dsimp only
  generalize hD : (dg 8 c []).1 = D at hs hl hv el ⊢
  generalize hL : (dg 8 c []).2 = left at hv ⊢
  have hv' : valI left D = c := by rw [hv]; rfl
  have hleft : 0 ≤ left := by
    rw [← hL]
    clear hv hv' hL hD el hl hs
    have : ∀ (k : Nat) (c : Int) (acc : List Int), 0 ≤ c → 0 ≤ (dg k c acc).2 := by
      intro k
      induction k with
      | zero => intro c acc h; exact h
      | succ k ih => intro c acc h; unfold dg; exact ih _ _ (Int.ediv_nonneg h (by decide))
    exact this 8 c [] h
  by_cases hno : 0 < left ∨ (D.filter fun d => decide (0 < d)).length = 0 ∨ frontB D = false
  · rw [if_pos hno]
    cases hx : nameOf c with
    | none => rfl
    | some l =>
      exfalso
      obtain ⟨n1, n2⟩ := nameOf_some hx
      obtain ⟨m1, m8, ml⟩ := name_bits n1
      -- the digits of the name's cell are its figures
      have hc : c = val 0 (figs l) := by rw [← n2, cellOf_val ml]
      have hlt := cellOf_lt ml
      rw [n2] at hlt
      have l0 : left = 0 := by
        rw [← hL]
        exact dg_left 8 c [] h (by have e : (27 : Int) ^ 8 = 282429536481 := by decide
                                   rw [e]; exact hlt.2)
      have hp : posI D = l := by rw [← el, ← n2, letters_cell n1]
      have hf : (D.filter fun d => decide (0 < d)).length = l.length := by rw [← hp]; simp [posI]
      -- both rows of figures have one value
      have key : D.map Int.toNat = figs l := by
        have v1 : val 0 (D.map Int.toNat) = val 0 (figs l) := by
          rw [l0] at hv'
          rw [← valI_val D 0 hs, hv']; exact hc
        have uniq : ∀ (A B : List Nat) (c1 c2 : Int), A.length = B.length → (∀ d ∈ A, d < 27) → (∀ d ∈ B, d < 27) → val c1 A = val c2 B → c1 = c2 ∧ A = B := by
          intro A
          induction A with
          | nil =>
            intro B c1 c2 hl _ _ hv
            cases B with
            | nil => exact ⟨hv, rfl⟩
            | cons b B => simp at hl
          | cons a A ih =>
            intro B c1 c2 hl h1 h2 hv
            cases B with
            | nil => simp at hl
            | cons b B =>
              obtain ⟨e1, e2⟩ := ih B (c1 * 27 + (a : Int)) (c2 * 27 + (b : Int)) (by simpa using hl) (fun d hd => h1 d (List.mem_cons_of_mem _ hd)) (fun d hd => h2 d (List.mem_cons_of_mem _ hd)) hv
              have a1 := h1 a (List.mem_cons_self ..)
              have b1 := h2 b (List.mem_cons_self ..)
              have : c1 = c2 ∧ a = b := by omega
              exact ⟨this.1, by rw [this.2, e2]⟩
        refine (uniq _ _ 0 0 (by simp [hl, figs]) ?_ (figs_small ml) v1).2
        intro d hd
        obtain ⟨x, hx, rfl⟩ := List.mem_map.mp hd
        have := hs x hx; omega
      rcases hno with z | z | z
      · omega
      · rw [hf] at z; omega
      · have : frontB D = true := by
          unfold frontB
          rw [hf]
          refine List.all_eq_true.mpr fun d hd => ?_
          have et : (D.take l.length).map Int.toNat = l.map (· - 96) := by
            rw [List.map_take, key, figs_front m8, List.take_left' (by simp)]
          have hm : d.toNat ∈ l.map (· - 96) := by rw [← et]; exact List.mem_map.mpr ⟨d, hd, rfl⟩
          obtain ⟨y, hy, hye⟩ := List.mem_map.mp hm
          have := List.all_eq_true.mp ml y hy
          simp only [letB, Bool.and_eq_true, decide_eq_true_eq] at this
          simp; omega
        rw [this] at z; cases z
  · rw [if_neg hno]
    have n1 : ¬ 0 < left := fun z => hno (.inl z)
    have n2 : (D.filter fun d => decide (0 < d)).length ≠ 0 := fun z => hno (.inr (.inl z))
    have n3 : frontB D = true := by
      cases hq : frontB D with
      | true => rfl
      | false => exact absurd (.inr (.inr hq)) hno
    have l0 : left = 0 := by omega
    obtain ⟨A, n, e1, e2, e3, e4⟩ := front_split D (fun d hd => (hs d hd).1) n3
    have hlet : letters c = A.map fun d => d.toNat + 96 := by rw [el]; unfold posI; rw [e3]
    have hAl : A.length ≤ 8 := by
      have := congrArg List.length e1
      simp at this; simp at hl; omega
    have hne : letters c ≠ [] := by
      rw [hlet]
      intro z
      rw [List.map_eq_nil_iff] at z
      rw [e3, z] at n2; exact n2 rfl
    have hnm := letters_name hne
    obtain ⟨_, m8, ml⟩ := name_bits hnm
    have hcell : cellOf (letters c) = c := by
      rw [cellOf_val ml, figs_front m8]
      have em : (letters c).map (· - 96) = A.map Int.toNat := by
        rw [hlet, List.map_map]
        exact List.map_congr_left fun d hd => by simp
      have en : 8 - (letters c).length = n := by
        have h1 := congrArg List.length e1
        have h2 := congrArg List.length hlet
        simp at h1 h2 hl; omega
      rw [em, en]
      have : A.map Int.toNat ++ List.replicate n 0 = D.map Int.toNat := by rw [e1]; simp
      rw [this, ← valI_val D 0 hs, ← l0, hv']
    unfold nameOf
    rw [if_pos ⟨hne, hcell⟩, e4, hlet]
end V

namespace V
open PySem L2 PyProof.Rows Rf Nm

/-! ### what the program answers, also where it raises -/
section
variable {bs : List Nat} {S : Store} {E : EK}
theorem ex_name_cell (d : PyData) (h : shortS d) (hn : isName d = false) : F_name_cell bs [.dat d] S = .ex 50 [] S := by
  refine eq_ex_wp ?_
  (unfold F_name_cell m_name_cell; refine Rf.wp_fn rfl ?_; simp only [Rf.startE, List.map_cons, List.map_nil, List.length_cons, List.length_nil, Nat.reduceAdd, Nat.reduceSub, List.replicate, List.cons_append, List.nil_append])
  (repeat array_get_dec)
  refine wp_eq (ev_is_name _ _ _ h) ?_
  rw [hn]
  (repeat array_get_dec)
  exact ⟨rfl, rfl, rfl⟩
def cellB : PyData → Bool
  | .int z => decide (0 ≤ z) && decide (z ≤ 999999999999999999)
  | _ => false
theorem ev_is_cell (d : PyData) : F_is_cell bs [.dat d] S = .ok (.dat (.bool (cellB d))) S := by
  refine eq_of_wp ?_
  (unfold F_is_cell m_is_cell; refine Rf.wp_fn rfl ?_; simp only [Rf.startE, List.map_cons, List.map_nil, List.length_cons, List.length_nil, Nat.reduceAdd, Nat.reduceSub, List.replicate, List.cons_append, List.nil_append])
  cases d with
  | int z =>
    (repeat array_get_dec)
    refine ifD (fun h1 => ?_) (fun h1 => ?_)
    · (repeat array_get_dec)
      exact ⟨by simp [cellB, h1], rfl⟩
    · (repeat array_get_dec)
      exact ⟨by simp [cellB, h1], rfl⟩
  | _ =>
    (repeat array_get_dec)
    exact ⟨rfl, rfl⟩
/-- the name of a number, nought or more and not too great -/
def nameIn : PyData → Option (List Nat)
  | .int z => if 0 ≤ z ∧ z ≤ 999999999999999999 then nameOf z else none
  | _ => none
theorem ev_cell_name (d : PyData) : F_cell_name bs [.dat d] S = match nameIn d with
    | some l => .ok (.dat (.str (sg l))) S
    | none => .ex 51 [.dat d] S := by
  cases hn : nameIn d with
  | some l =>
    obtain ⟨z, rfl, hz, ho⟩ : ∃ z, d = .int z ∧ (0 ≤ z ∧ z ≤ 999999999999999999) ∧ nameOf z = some l := by
      cases d <;> simp only [nameIn] at hn <;> try cases hn
      split at hn
      · rename_i z h; exact ⟨z, rfl, h, hn⟩
      · cases hn
    refine eq_of_wp ?_
    (unfold F_cell_name m_cell_name; refine Rf.wp_fn rfl ?_; simp only [Rf.startE, List.map_cons, List.map_nil, List.length_cons, List.length_nil, Nat.reduceAdd, Nat.reduceSub, List.replicate, List.cons_append, List.nil_append])
    (repeat array_get_dec)
    refine wp_eq (ev_is_cell _) ?_
    have : cellB (.int z) = true := by simp [cellB, hz.1, hz.2]
    rw [this]
    (repeat array_get_dec)
    refine wp_eq (ev_name_of _ _ _) ?_
    rw [ho, show optN (some l) = .str (sg l) from rfl]
    (repeat array_get_dec)
    exact ⟨rfl, rfl⟩
  | none =>
    refine eq_ex_wp ?_
    (unfold F_cell_name m_cell_name; refine Rf.wp_fn rfl ?_; simp only [Rf.startE, List.map_cons, List.map_nil, List.length_cons, List.length_nil, Nat.reduceAdd, Nat.reduceSub, List.replicate, List.cons_append, List.nil_append])
    (repeat array_get_dec)
    refine wp_eq (ev_is_cell _) ?_
    cases hc : cellB d with
    | false =>
      (repeat array_get_dec)
      exact ⟨rfl, rfl, rfl⟩
    | true =>
      obtain ⟨z, rfl, hz⟩ : ∃ z, d = .int z ∧ (0 ≤ z ∧ z ≤ 999999999999999999) := by
        cases d <;> simp only [cellB] at hc <;> try cases hc
        rename_i z
        simp at hc
        exact ⟨z, rfl, hc⟩
      simp only [nameIn, if_pos hz] at hn
      (repeat array_get_dec)
      refine wp_eq (ev_name_of _ _ _) ?_
      rw [hn, show optN none = .none from rfl]
      (repeat array_get_dec)
      exact ⟨rfl, rfl, rfl⟩
theorem ev_check (d : PyData) (h : shortP d) (hp : isPath d = true) : F_check_path bs [.dat d] S = .ok (.dat .none) S := by
  refine eq_of_wp ?_
  (unfold F_check_path m_check_path; refine Rf.wp_fn rfl ?_; simp only [Rf.startE, List.map_cons, List.map_nil, List.length_cons, List.length_nil, Nat.reduceAdd, Nat.reduceSub, List.replicate, List.cons_append, List.nil_append])
  (repeat array_get_dec)
  refine wp_eq (ev_is_path _ _ _ h) ?_
  rw [hp]
  (repeat array_get_dec)
  exact ⟨trivial, by rw [List.take_length]⟩
theorem ex_check (d : PyData) (h : shortP d) (hp : isPath d = false) : F_check_path bs [.dat d] S = .ex 50 [] S := by
  refine eq_ex_wp ?_
  (unfold F_check_path m_check_path; refine Rf.wp_fn rfl ?_; simp only [Rf.startE, List.map_cons, List.map_nil, List.length_cons, List.length_nil, Nat.reduceAdd, Nat.reduceSub, List.replicate, List.cons_append, List.nil_append])
  (repeat array_get_dec)
  refine wp_eq (ev_is_path _ _ _ h) ?_
  rw [hp]
  (repeat array_get_dec)
  exact ⟨rfl, rfl, rfl⟩
theorem ex_parent (d : PyData) (h : shortP d) (hp : isPath d = false) : F_parent_of bs [.dat d] S = .ex 50 [] S := by
  refine eq_ex_wp ?_
  (unfold F_parent_of m_parent_of; refine Rf.wp_fn rfl ?_; simp only [Rf.startE, List.map_cons, List.map_nil, List.length_cons, List.length_nil, Nat.reduceAdd, Nat.reduceSub, List.replicate, List.cons_append, List.nil_append])
  (repeat array_get_dec)
  refine wp_exq (ex_check d h hp) ?_
  (repeat array_get_dec)
  exact ⟨rfl, rfl, rfl⟩
theorem ex_within (d e : PyData) (h : shortP d) (hp : isPath d = false) : F_is_within bs [.dat d, .dat e] S = .ex 50 [] S := by
  refine eq_ex_wp ?_
  (unfold F_is_within m_is_within; refine Rf.wp_fn rfl ?_; simp only [Rf.startE, List.map_cons, List.map_nil, List.length_cons, List.length_nil, Nat.reduceAdd, Nat.reduceSub, List.replicate, List.cons_append, List.nil_append])
  (repeat array_get_dec)
  refine wp_exq (ex_check d h hp) ?_
  (repeat array_get_dec)
  exact ⟨rfl, rfl, rfl⟩
theorem cut_last {α : Type} (xs : List α) : cutW xs none (some (-1)) = xs.dropLast := by
  unfold cutW
  rw [HT.sIx_none]
  have e : HT.sIx xs.length xs.length (some (-1)) = xs.length - 1 := by
    show (if (-1 : Int) < 0 then ((-1 : Int) + (xs.length : Int)).toNat else min (-1 : Int).toNat xs.length) = xs.length - 1
    rw [if_pos (by decide)]; omega
  rw [e, List.drop_zero, Nat.sub_zero, List.dropLast_eq_take]
/-! paths as rows of names -/
abbrev dP (P : List (List Nat)) : PyData := .tuple (P.map fun l => .str (sg l))
theorem isName_sg (l : List Nat) : isName (.str (sg l)) = nameB l := by simp [isName]
theorem isPath_dP (P : List (List Nat)) : isPath (dP P) = (decide (P.length ≤ 8) && P.all nameB) := by
  simp [isPath, List.all_map]
  rfl
theorem short_dP {P : List (List Nat)} (h : ∀ l ∈ P, l.length ≤ 100000) : shortP (dP P) := by
  intro d hd z e
  obtain ⟨l, hl, rfl⟩ := List.mem_map.mp hd
  cases e
  rw [sg_len]; exact h l hl
theorem short_name {P : List (List Nat)} (h : P.all nameB = true) : ∀ l ∈ P, l.length ≤ 100000 := fun l hl => by
  have := (name_bits (List.all_eq_true.mp h l hl)).2.1; omega
theorem pd_dP (P : List (List Nat)) : PD 1 (dP P) := pd_tup fun x hx => by
  obtain ⟨l, _, rfl⟩ := List.mem_map.mp hx
  exact pd_str _
theorem strict_dP (P : List (List Nat)) : strictD (dP P) = true := by
  rw [strictD]
  exact strict_all fun x hx => by
    obtain ⟨l, _, rfl⟩ := List.mem_map.mp hx
    rfl
theorem dP_inj {P Q : List (List Nat)} : dP P = dP Q ↔ P = Q := by
  constructor
  · intro h
    injection h with h
    induction P generalizing Q with
    | nil =>
      cases Q with
      | nil => rfl
      | cons => simp at h
    | cons l P ih =>
      cases Q with
      | nil => simp at h
      | cons m Q =>
        simp only [List.map_cons, List.cons.injEq] at h
        have e : sg l = sg m := by have := h.1; injection this
        rw [sg_inj.mp e, ih h.2]
  · intro h; rw [h]
theorem eqv_dP (P Q : List (List Nat)) : PyData.eqv (dP P) (dP Q) = decide (P = Q) := eqv_dec (strict_dP P) (strict_dP Q) dP_inj
theorem ev_parent (P : List (List Nat)) (hp : P.all nameB = true) (h8 : P.length ≤ 8) (h0 : P ≠ []) : F_parent_of bs [.dat (dP P)] S = .ok (.dat (dP P.dropLast)) S := by
  have ip : isPath (dP P) = true := by rw [isPath_dP, hp, decide_eq_true h8]; rfl
  refine eq_of_wp ?_
  (unfold F_parent_of m_parent_of; refine Rf.wp_fn rfl ?_; simp only [Rf.startE, List.map_cons, List.map_nil, List.length_cons, List.length_nil, Nat.reduceAdd, Nat.reduceSub, List.replicate, List.cons_append, List.nil_append])
  (repeat array_get_dec)
  refine wp_eq (ev_check _ (short_dP (short_name hp)) ip) ?_
  (repeat array_get_dec)
  refine ifBF (by cases P with | nil => exact absurd rfl h0 | cons => rfl) ?_
  (repeat array_get_dec)
  rw [cut_last, ← List.map_dropLast]
  exact ⟨rfl, rfl⟩
theorem ex_parent0 : F_parent_of bs [.dat (.tuple [])] S = .ex 52 [] S := by
  refine eq_ex_wp ?_
  (unfold F_parent_of m_parent_of; refine Rf.wp_fn rfl ?_; simp only [Rf.startE, List.map_cons, List.map_nil, List.length_cons, List.length_nil, Nat.reduceAdd, Nat.reduceSub, List.replicate, List.cons_append, List.nil_append])
  (repeat array_get_dec)
  refine wp_eq (ev_check _ (fun d hd => nomatch hd) rfl) ?_
  (repeat array_get_dec)
  refine ifBT rfl ?_
  (repeat array_get_dec)
  exact ⟨rfl, rfl, rfl⟩
/-- whether what is asked lies within -/
theorem ev_within (P Q : List (List Nat)) (hp : P.all nameB = true) (h8 : P.length ≤ 8) (hq : ∀ l ∈ Q, l.length ≤ 100000) : F_is_within bs [.dat (dP P), .dat (dP Q)] S = .ok (.dat (.bool (isPath (dP Q) && decide (Q.take P.length = P)))) S := by
  have ip : isPath (dP P) = true := by rw [isPath_dP, hp, decide_eq_true h8]; rfl
  refine eq_of_wp ?_
  (unfold F_is_within m_is_within; refine Rf.wp_fn rfl ?_; simp only [Rf.startE, List.map_cons, List.map_nil, List.length_cons, List.length_nil, Nat.reduceAdd, Nat.reduceSub, List.replicate, List.cons_append, List.nil_append])
  (repeat array_get_dec)
  refine wp_eq (ev_check _ (short_dP (short_name hp)) ip) ?_
  (repeat array_get_dec)
  refine wp_eq (ev_is_path _ _ _ (short_dP hq)) ?_
  (repeat array_get_dec)
  cases isPath (dP Q) with
  | false =>
    (repeat array_get_dec)
    exact ⟨rfl, rfl⟩
  | true =>
    (repeat array_get_dec)
    rw [List.length_map, cut_to, ← List.map_take]
    refine eq_pd (pd_dP _) (pd_dP _) (by decide) ?_
    rw [eqv_dP]
    (repeat array_get_dec)
    exact ⟨by simp, rfl⟩
/-- .. below the top, of any datum -/
theorem ev_within0 (d : PyData) (h : shortP d) : F_is_within bs [.dat (.tuple []), .dat d] S = .ok (.dat (.bool (isPath d))) S := by
  refine eq_of_wp ?_
  (unfold F_is_within m_is_within; refine Rf.wp_fn rfl ?_; simp only [Rf.startE, List.map_cons, List.map_nil, List.length_cons, List.length_nil, Nat.reduceAdd, Nat.reduceSub, List.replicate, List.cons_append, List.nil_append])
  (repeat array_get_dec)
  refine wp_eq (ev_check (.tuple []) (fun d hd => nomatch hd) rfl) ?_
  (repeat array_get_dec)
  refine wp_eq (ev_is_path _ _ _ h) ?_
  (repeat array_get_dec)
  cases hp : isPath d with
  | false =>
    (repeat array_get_dec)
    exact ⟨rfl, rfl⟩
  | true =>
    obtain ⟨ds, rfl⟩ : ∃ ds, d = .tuple ds := by
      cases d <;> simp only [isPath] at hp <;> try cases hp
      exact ⟨_, rfl⟩
    (repeat array_get_dec)
    rw [show ((([] : List PyData).length : Nat) : Int) = ((0 : Nat) : Int) from rfl, cut_to]
    refine eq_pd (n := 1) (m := 1) (pd_tup fun x hx => nomatch hx) (pd_tup fun x hx => nomatch hx) (by decide) ?_
    (repeat array_get_dec)
    exact ⟨by simp [PyData.eqv, PyData.eqvAll], rfl⟩
end
end V

namespace V
open PySem L2 PyProof.Rows Rf Nm

/-! ### draws -/
section
variable {bs : List Nat} {S : Store} {n : Nat} {E : EK}
theorem wp_drop (hv : Vat S n) {t : Int} (ht : 0 < t) (ht2 : t ≤ 1000000000000000000) : (F__law_pull bs [.loc n, .dat (.int t)] S).wp (fun w S' => DW n S (fun w => ∃ r : Int, w = .dat (.int r) ∧ 0 ≤ r ∧ r < t) w S') E := by
  have hn := hv.lt
  obtain ⟨a, b, c, e⟩ := hv
  have res : ∀ x : Int, ∃ r : Int, W.dat (.int (x % t)) = .dat (.int r) ∧ 0 ≤ r ∧ r < t := fun x => ⟨x % t, rfl, Int.emod_nonneg _ (by omega), Int.emod_lt_of_pos _ ht⟩
  (unfold F__law_pull m__law_pull; refine Rf.wp_fn rfl ?_; simp only [Rf.startE, List.map_cons, List.map_nil, List.length_cons, List.length_nil, Nat.reduceAdd, Nat.reduceSub, List.replicate, List.cons_append, List.nil_append])
  (repeat array_get_dec)
  refine ix_loc (w := .int a) e rfl ?_
  (repeat array_get_dec)
  refine ifD (fun h => ?_) (fun h => ?_)
  · (repeat array_get_dec)
    refine ix_loc (w := .int a) e rfl ?_
    (repeat array_get_dec)
    refine ix_loc (w := .int a) e rfl ?_
    (repeat array_get_dec)
    refine wp_tSub ?_
    (repeat array_get_dec)
    refine set_loc (m := 0) e rfl ?_
    (repeat array_get_dec)
    refine rt_len (by simp) ⟨res _, drawn_set hn _ _ _⟩
  · (repeat array_get_dec)
    refine ix_loc (w := .int c) e rfl ?_
    (repeat array_get_dec)
    refine wp_tSub ?_
    (repeat array_get_dec)
    refine set_loc (m := 2) e rfl ?_
    have e1 : (S.set n (.lst [.int a, .int b, .int (c + 1)]))[n]? = some (.lst [.int a, .int b, .int (c + 1)]) := List.getElem?_set_self hn
    show SO.wp _ _ _ _ _ _
    (repeat array_get_dec)
    refine ix_loc (w := .int b) e1 rfl ?_
    (repeat array_get_dec)
    refine ix_loc (w := .int (c + 1)) e1 rfl ?_
    (repeat array_get_dec)
    refine ix_loc (w := .int (c + 1)) e1 rfl ?_
    (repeat array_get_dec)
    refine rt_len (by simp) ⟨res _, drawn_set hn _ _ _⟩
theorem wp_taste (hv : Vat S n) {ds : List PyData} (h0 : ds ≠ []) (hl : ds.length ≤ 100000) : (F__law_any bs [.loc n, .dat (.list ds)] S).wp (fun w S' => DW n S (fun w => ∃ d ∈ ds, w = .dat d) w S') E := by
  have hp : 0 < ds.length := List.length_pos_iff.mpr h0
  (unfold F__law_any m__law_any; refine Rf.wp_fn rfl ?_; simp only [Rf.startE, List.map_cons, List.map_nil, List.length_cons, List.length_nil, Nat.reduceAdd, Nat.reduceSub, List.replicate, List.cons_append, List.nil_append])
  (repeat array_get_dec)
  refine (wp_drop hv (by omega) (by omega)).use fun w S' ⟨⟨r, hw, r0, r1⟩, hd⟩ => ?_
  subst hw
  (repeat array_get_dec)
  obtain ⟨k, rfl⟩ := Int.eq_ofNat_of_zero_le r0
  have hk : k < ds.length := by omega
  refine ix_lst (d := ds[k]) (atI_ofNat (List.getElem?_eq_getElem hk)) ?_
  exact rt_len hd.len ⟨⟨_, List.getElem_mem hk, rfl⟩, hd⟩
theorem wp_vat (ns : List Int) (k : Nat) : (F__law_sack bs [.lw (ns.map fun n => .dat (.int n)), .dat (.int k)] S).wp (fun w S' => w = .loc S.length ∧ ∃ a b c : Int, S' = S ++ [.lst [.int a, .int b, .int c]]) E := by
  (unfold F__law_sack m__law_sack; refine Rf.wp_fn rfl ?_; simp only [Rf.startE, List.map_cons, List.map_nil, List.length_cons, List.length_nil, Nat.reduceAdd, Nat.reduceSub, List.replicate, List.cons_append, List.nil_append])
  (repeat array_get_dec)
  refine ifD (fun h => ?_) (fun h => ?_)
  · rw [List.length_map] at h
    have hk : k < ns.length := by omega
    (repeat array_get_dec)
    refine ix_seq (w := .dat (.int ns[k])) (ws := ns.map fun n => .dat (.int n)) rfl (atI_ofNat (by rw [List.getElem?_map, List.getElem?_eq_getElem hk]; rfl)) ?_
    (repeat array_get_dec)
    refine pow_int (r := 1000000000000000000000000000000000000000000000000000000000) (by decide) (by decide +kernel) ?_
    (repeat array_get_dec)
    refine pow_int (r := 1000000000000000000000000000000000000000000000000000000000000000000000000000000000000000000000000000000000000000000000000000000000000000000000000000000000000000000000000000000000000000000000000000000000000000000000000000000000000000000000000000000000000000000000000000000000000000000000000000000000000000000000000000000000000000000000000000000) (by decide +kernel) (by decide +kernel) ?_
    (repeat array_get_dec)
    refine pow_int (r := 10000000000000000) (by decide) (by decide) ?_
    (repeat array_get_dec)
    exact rt_new (Nat.le_refl _) ⟨rfl, _, _, _, rfl⟩
  · (repeat array_get_dec)
    refine pow_int (r := 1000000000000000000000000000000000000000000000000000000000) (by decide) (by decide +kernel) ?_
    (repeat array_get_dec)
    refine pow_int (r := 1000000000000000000000000000000000000000000000000000000000000000000000000000000000000000000000000000000000000000000000000000000000000000000000000000000000000000000000000000000000000000000000000000000000000000000000000000000000000000000000000000000000000000000000000000000000000000000000000000000000000000000000000000000000000000000000000000000) (by decide +kernel) (by decide +kernel) ?_
    (repeat array_get_dec)
    refine pow_int (r := 10000000000000000) (by decide) (by decide) ?_
    (repeat array_get_dec)
    exact rt_new (Nat.le_refl _) ⟨rfl, _, _, _, rfl⟩
end
end V

namespace V
open PySem L2 PyProof.Rows Rf Nm

theorem in_lst {neg : Bool} {bs : List Nat} {S : Store} {d : PyData} {ds : List PyData} {Q : W → Store → Prop} (h : d.plain = true ∧ PyData.plainAll ds = true ∧ d.depth ≤ 64) (q : Q (.dat (.bool ((ds.any fun z => PyData.eqv z d) != neg))) S) : wpo (inAF neg bs (.dat d) (.dat (.list ds)) S) Q := by
  have : inF neg bs (.dat d) (.dat (.list ds)) S = some (.bl ((ds.any fun z => PyData.eqv z d) != neg), S) := by
    unfold inF
    show (if _ ∧ _ ∧ _ then _ else _) = _
    rw [if_pos h]
  unfold inAF
  rw [this]; exact q
theorem flat1 : ∀ ls : List Nat, (ls.map fun c => [c]).flatten = ls
  | [] => rfl
  | c :: ls => by rw [List.map_cons, List.flatten_cons, flat1 ls]; rfl
theorem six_at {r : Int} (h0 : 0 ≤ r) (h : r < 6) : ∃ c, letB c = true ∧ L2.atI ("abcxyz" : Str).cps.toList r = some c := by
  have : r = 0 ∨ r = 1 ∨ r = 2 ∨ r = 3 ∨ r = 4 ∨ r = 5 := by omega
  rcases this with rfl | rfl | rfl | rfl | rfl | rfl
  · exact ⟨97, by decide, by decide +kernel⟩
  · exact ⟨98, by decide, by decide +kernel⟩
  · exact ⟨99, by decide, by decide +kernel⟩
  · exact ⟨120, by decide, by decide +kernel⟩
  · exact ⟨121, by decide, by decide +kernel⟩
  · exact ⟨122, by decide, by decide +kernel⟩
section
variable {bs : List Nat} {S : Store} {n : Nat} {E : EK}
theorem wp_word (hv : Vat S n) {t : Int} (ht : 0 < t) (ht2 : t ≤ 8) : (F__law_word bs [.loc n, .dat (.int t)] S).wp (fun w S' => DW n S (fun w => ∃ l, nameB l = true ∧ w = .dat (.str (sg l))) w S') E := by
  (unfold F__law_word m__law_word; refine Rf.wp_fn rfl ?_; simp only [Rf.startE, List.map_cons, List.map_nil, List.length_cons, List.length_nil, Nat.reduceAdd, Nat.reduceSub, List.replicate, List.cons_append, List.nil_append])
  (repeat array_get_dec)
  refine (wp_drop hv ht (by omega)).use fun w S1 ⟨⟨m, hw, m0, m1⟩, h1⟩ => ?_
  subst hw
  (repeat array_get_dec)
  refine wp_compRange (fun k acc S' => ∃ ls : List Nat, acc = (ls.map fun c => .dat (.str (sg [c]))) ∧ ls.length = k ∧ ls.all letB = true ∧ Drawn n S1 S') ⟨[], rfl, rfl, rfl, Drawn.refl h1.vat⟩ (fun k acc S' hk ⟨ls, i1, i2, i3, i4⟩ => ?_) (fun acc S' ⟨ls, i1, i2, i3, i4⟩ => ?_)
  · subst i1
    (repeat array_get_dec)
    refine (wp_drop i4.vat (by decide) (by decide)).use fun w S2 ⟨⟨r, hw, r0, r1⟩, h2⟩ => ?_
    subst hw
    obtain ⟨c, hc, hat⟩ := six_at r0 r1
    refine ix_str (c := c) (by decide +kernel) hat ?_
    refine ⟨by rw [List.length_map]; omega, ls ++ [c], by rw [List.map_append]; rfl, by simp [i2], ?_, i4.trans h2⟩
    rw [List.all_append, i3]
    simp [hc]
  · subst i1
    have e : (ls.map fun c => W.dat (.str (sg [c]))) = (ls.map fun c => PyData.str (sg [c])).map .dat := by rw [List.map_map]; rfl
    rw [e]
    (repeat array_get_dec)
    have e2 : (ls.map fun c => PyData.str (sg [c])) = (ls.map fun c => [c]).map fun l => .str (sg l) := by rw [List.map_map]; rfl
    have ef := flat1 ls
    have hlen : (ls.length : Int) = 1 + m := by rw [i2]; omega
    rw [e2, empty_sg]
    refine join_sgs (by rw [ef]; omega) ?_
    rw [ef]
    have hd := h1.trans i4
    refine rt_len hd.len ⟨⟨ls, ?_, rfl⟩, hd⟩
    have a1 : decide (1 ≤ ls.length) = true := decide_eq_true (by omega)
    have a2 : decide (ls.length ≤ 8) = true := decide_eq_true (by omega)
    simp only [nameB, i3, a1, a2]; rfl
theorem any_zero : ∀ D : List Int, (∀ d ∈ D, 0 ≤ d) → ((D.map PyData.int).any fun z => PyData.eqv z (.int 0)) = !(D.all fun d => decide (0 < d))
  | [], _ => rfl
  | d :: D, h => by
    have hd := h d (List.mem_cons_self ..)
    rw [List.map_cons, List.any_cons, List.all_cons, any_zero D fun x hx => h x (List.mem_cons_of_mem _ hx)]
    have : PyData.eqv (.int d) (.int 0) = !decide (0 < d) := by
      show (d == 0) = _
      by_cases hz : d = 0
      · subst hz; rfl
      · have : 0 < d := by omega
        simp [hz, this]
    rw [this, Bool.not_and]
theorem pd_ints (D : List Int) : PD 1 (.list (D.map .int)) := pd_lst fun x hx => by
  obtain ⟨d, _, rfl⟩ := List.mem_map.mp hx
  exact pd_int _
theorem ev_own_name (c : Int) : F__law_own_name bs [.dat (.int c)] S = .ok (.dat (optN (ownName c))) S := by
  refine eq_of_wp ?_
  (unfold F__law_own_name m__law_own_name; refine Rf.wp_fn rfl ?_; simp only [Rf.startE, List.map_cons, List.map_nil, List.length_cons, List.length_nil, Nat.reduceAdd, Nat.reduceSub, List.replicate, List.cons_append, List.nil_append])
  iterate 17 array_get_dec
  (with_reducible refine wp_range (fun k env S' => ∃ D left x, (k ≤ 8 ∧ dg (8 - k) left D = dg 8 c [] ∧ D.length = k) ∧ env = [some (.dat (.int c)), x, none, some (.dat (.list (D.map .int))), some (.dat (.int left)), none] ∧ S' = S) ?_ ?_ ?_)
  · exact ⟨[], c, none, ⟨by omega, rfl, rfl⟩, rfl, rfl⟩
  · rintro k env S' hk ⟨D, left, x, ⟨h8, h1, h2⟩, rfl, rfl⟩
    have e : 8 - k = (8 - (k + 1)) + 1 := by omega
    rw [e] at h1
    unfold dg at h1
    (repeat array_get_dec)
    refine add_lst (by simp; omega) ?_
    (repeat array_get_dec)
    exact ⟨left % 27 :: D, left / 27, _, ⟨by omega, h1, by simp; omega⟩, rfl, rfl⟩
  · rintro env S' ⟨D, left, x, ⟨_, h1, h2⟩, rfl, rfl⟩
    have e1 : (dg 8 c []).1 = D := (congrArg Prod.fst h1).symm
    have e2 : (dg 8 c []).2 = left := (congrArg Prod.snd h1).symm
    have sm : ∀ d ∈ D, 0 ≤ d ∧ d < 27 := by rw [← e1]; exact dg_small 8 c [] (fun d hd => nomatch hd)
    unfold ownName
    dsimp only
    rw [e1, e2]
    (repeat array_get_dec)
    have em : ∀ l : List Int, (l.map PyData.int).map W.dat = l.map fun d => W.dat (.int d) := fun l => by rw [List.map_map]; rfl
    rw [em]
    (with_reducible refine wp_compP (f := fun d : Int => .dat (.int d)) (xs := D) (fun d => if 0 < d then some (.dat (.int d)) else none) (by omega) (fun d hd => ?_) ?_)
    · (repeat array_get_dec)
      refine ifD (fun hp => ?_) (fun hp => ?_)
      · (repeat array_get_dec)
        exact ⟨by rw [if_pos hp], rfl⟩
      · exact ⟨by rw [if_neg hp], rfl⟩
    · have e3 : D.filterMap (fun d => if 0 < d then some (W.dat (.int d)) else none) = ((D.filter fun d => decide (0 < d)).map PyData.int).map .dat := by
        clear e1 h1 h2 sm
        induction D with
        | nil => rfl
        | cons d D ih =>
          by_cases hp : 0 < d
          · simp [hp, ih]
          · simp [hp, ih]
      rw [e3]
      (repeat array_get_dec)
      rw [List.length_map]
      generalize hn : (D.filter fun d => decide (0 < d)).length = m
      have hm8 : m ≤ D.length := by rw [← hn]; exact List.length_filter_le _ _
      refine ifD (fun z => ?_) (fun z => ?_)
      · (repeat array_get_dec)
        rw [if_pos (.inl z)]
        exact ⟨rfl, rfl⟩
      · (repeat array_get_dec)
        refine ifD (fun z2 => ?_) (fun z2 => ?_)
        · (repeat array_get_dec)
          rw [if_pos (.inr (.inl (by omega)))]
          exact ⟨rfl, rfl⟩
        · (repeat array_get_dec)
          rw [cut_to, ← List.map_take]
          refine in_lst ⟨rfl, (pd_ints _).1, by simp [PyData.depth]⟩ ?_
          rw [any_zero _ fun d hd => (sm d (List.mem_of_mem_take hd)).1]
          have fb : (D.take m).all (fun d => decide (0 < d)) = frontB D := by unfold frontB; rw [hn]
          rw [fb]
          (repeat array_get_dec)
          cases hf : frontB D with
          | false =>
            (repeat array_get_dec)
            refine ifBT rfl ?_
            (repeat array_get_dec)
            rw [if_pos (.inr (.inr rfl))]
            exact ⟨rfl, rfl⟩
          | true =>
            (repeat array_get_dec)
            refine ifBF rfl ?_
            (repeat array_get_dec)
            rw [cut_to, ← List.map_take]
            (repeat array_get_dec)
            rw [em]
            (with_reducible refine wp_compM (f := fun d : Int => .dat (.int d)) (xs := D.take m) (fun d => .dat (.str (sg [d.toNat + 96]))) (by rw [List.length_take]; omega) (fun d hd => ?_) ?_)
            · have h3 := sm d (List.mem_of_mem_take hd)
              have h4 : 0 < d := by
                rw [← fb] at hf
                simpa using List.all_eq_true.mp hf d hd
              (repeat array_get_dec)
              refine ix_alpha (by omega) (by omega) ?_
              rw [show (d - 1).toNat + 97 = d.toNat + 96 by omega]
              exact ⟨rfl, rfl⟩
            · have e5 : ((D.take m).map fun d => W.dat (.str (sg [d.toNat + 96]))) = (((D.take m).map fun d => [d.toNat + 96]).map fun l => PyData.str (sg l)).map .dat := by rw [List.map_map, List.map_map]; rfl
              have e6 : ((D.take m).map fun d => [d.toNat + 96]).flatten = (D.take m).map fun d => d.toNat + 96 := by
                have := flat1 ((D.take m).map fun d => d.toNat + 96)
                rw [List.map_map] at this
                exact this
              rw [e5]
              (repeat array_get_dec)
              rw [empty_sg]
              refine join_sgs (by rw [e6, List.length_map, List.length_take]; omega) ?_
              rw [e6, if_neg (fun q => by rcases q with q | q | q
                                          · exact z q
                                          · omega
                                          · cases q)]
              (repeat array_get_dec)
              exact ⟨rfl, rfl⟩
/-! ### what is told, or raised -/
theorem wf_told {lam : Lam} {d : PyData} {Q : W → Store → Prop} (h : lam (S.length :: bs) S = .ok (.dat d) S) (q : Q (.dat (.tuple [.str "told", d])) S) : (F__law_word_for lam bs S).wp Q E := by
  unfold F__law_word_for m__law_word_for
  refine wp_fnL ?_
  (repeat array_get_dec)
  refine wp_eq h ?_
  (repeat array_get_dec)
  exact q
theorem wf_name {lam : Lam} {Q : W → Store → Prop} (h : lam (S.length :: bs) S = .ex 50 [] S) (q : Q (.dat (.tuple [.str "raised", .str "name"])) S) : (F__law_word_for lam bs S).wp Q E := by
  unfold F__law_word_for m__law_word_for
  refine wp_fnL ?_
  (repeat array_get_dec)
  refine wp_exq h ?_
  refine xp_hit (h := ⟨50, none, _⟩) (by decide) rfl ?_
  (repeat array_get_dec)
  exact q
theorem wf_oper {lam : Lam} {Q : W → Store → Prop} (h : lam (S.length :: bs) S = .ex 52 [] S) (q : Q (.dat (.tuple [.str "raised", .str "operation"])) S) : (F__law_word_for lam bs S).wp Q E := by
  unfold F__law_word_for m__law_word_for
  refine wp_fnL ?_
  (repeat array_get_dec)
  refine wp_exq h ?_
  refine xp_hit (h := ⟨52, none, _⟩) (by decide) rfl ?_
  (repeat array_get_dec)
  exact q
theorem wf_num {lam : Lam} {d : PyData} {t : Str} {Q : W → Store → Prop} (h : lam (S.length :: bs) S = .ex 51 [.dat d] S) (ht : reprD d = some t) (q : Q (.dat (.tuple [.str "raised", .str "number", .str t])) S) : (F__law_word_for lam bs S).wp Q E := by
  unfold F__law_word_for m__law_word_for
  refine wp_fnL ?_
  (repeat array_get_dec)
  refine wp_exq h ?_
  refine xp_hit (h := ⟨51, some 1, _⟩) (by decide) rfl ?_
  (repeat array_get_dec)
  refine repr_dat ht ?_
  (repeat array_get_dec)
  exact q
end
end V

namespace V
open PySem L2 PyProof.Rows Rf Nm

/-! ### cells are ordered as names are -/
def vk : Nat → List Nat → Int
  | _, [] => 0
  | 0, _ :: _ => 0
  | k + 1, a :: l => ((a - 96 : Nat) : Int) * 27 ^ k + vk k l
theorem vk_val : ∀ (l : List Nat) (k : Nat) (c : Int), l.length ≤ k → val c (l.map (· - 96)) * 27 ^ (k - l.length) = c * 27 ^ k + vk k l
  | [], k, c, _ => by simp [val, vk]
  | a :: l, 0, c, h => by simp at h
  | a :: l, k + 1, c, h => by
    have ih := vk_val l k (c * 27 + ((a - 96 : Nat) : Int)) (by simpa using h)
    have e : val c ((a :: l).map (· - 96)) = val (c * 27 + ((a - 96 : Nat) : Int)) (l.map (· - 96)) := rfl
    rw [e, List.length_cons, Nat.add_sub_add_right, ih]
    show _ = c * 27 ^ (k + 1) + (((a - 96 : Nat) : Int) * 27 ^ k + vk k l)
    rw [Int.pow_succ, Int.add_mul, Int.mul_assoc c 27, Int.mul_comm 27 (27 ^ k)]
    omega
theorem cell_vk {l : List Nat} (h : nameB l = true) : cellOf l = vk 8 l := by
  obtain ⟨_, h8, hl⟩ := name_bits h
  rw [cellOf_val hl, figs_front h8, val_zeros, vk_val l 8 0 h8]
  simp
theorem vk_range : ∀ (k : Nat) (l : List Nat), l.length ≤ k → l.all letB = true → 0 ≤ vk k l ∧ vk k l < 27 ^ k
  | k, [], _, _ => by
    have e : vk k [] = 0 := by cases k <;> rfl
    rw [e]
    exact ⟨Int.le_refl 0, Int.pow_pos (by decide)⟩
  | 0, a :: l, h, _ => by simp at h
  | k + 1, a :: l, h, hl => by
    rw [List.all_cons, Bool.and_eq_true] at hl
    obtain ⟨i1, i2⟩ := vk_range k l (by simpa using h) hl.2
    have ha := hl.1
    simp only [letB, Bool.and_eq_true, decide_eq_true_eq] at ha
    have hp : (0 : Int) < 27 ^ k := Int.pow_pos (by decide)
    have h1 : ((a - 96 : Nat) : Int) ≤ 26 := by omega
    have h0 : (0 : Int) ≤ ((a - 96 : Nat) : Int) := by omega
    have m1 : ((a - 96 : Nat) : Int) * 27 ^ k ≤ 26 * 27 ^ k := Int.mul_le_mul_of_nonneg_right h1 (Int.le_of_lt hp)
    have m0 : 0 ≤ ((a - 96 : Nat) : Int) * 27 ^ k := Int.mul_nonneg h0 (Int.le_of_lt hp)
    show 0 ≤ ((a - 96 : Nat) : Int) * 27 ^ k + vk k l ∧ ((a - 96 : Nat) : Int) * 27 ^ k + vk k l < 27 ^ (k + 1)
    rw [Int.pow_succ]
    omega
theorem vk_lt : ∀ (k : Nat) (l m : List Nat), l.length ≤ k → m.length ≤ k → l.all letB = true → m.all letB = true → (vk k l < vk k m ↔ l < m)
  | k, [], [], _, _, _, _ => by simp
  | 0, a :: l, _, h, _, _, _ => by simp at h
  | 0, [], b :: m, _, h, _, _ => by simp at h
  | k + 1, a :: l, [], h, _, hl, _ => by
    have := (vk_range (k + 1) (a :: l) h hl).1
    constructor
    · intro z
      have : vk (k + 1) (a :: l) < 0 := z
      omega
    · intro z; exact absurd z (by simp)
  | k + 1, [], b :: m, _, h, _, hm => by
    rw [List.all_cons, Bool.and_eq_true] at hm
    have hb := hm.1
    simp only [letB, Bool.and_eq_true, decide_eq_true_eq] at hb
    obtain ⟨i1, i2⟩ := vk_range k m (by simpa using h) hm.2
    have hp : (0 : Int) < 27 ^ k := Int.pow_pos (by decide)
    have h1 : (1 : Int) ≤ ((b - 96 : Nat) : Int) := by omega
    have m1 : 1 * (27 : Int) ^ k ≤ ((b - 96 : Nat) : Int) * 27 ^ k := Int.mul_le_mul_of_nonneg_right h1 (Int.le_of_lt hp)
    constructor
    · intro _; simp
    · intro _
      show (0 : Int) < ((b - 96 : Nat) : Int) * 27 ^ k + vk k m
      omega
  | k + 1, a :: l, b :: m, h1, h2, hl, hm => by
    rw [List.all_cons, Bool.and_eq_true] at hl hm
    have ha := hl.1
    have hb := hm.1
    simp only [letB, Bool.and_eq_true, decide_eq_true_eq] at ha hb
    have ih := vk_lt k l m (by simpa using h1) (by simpa using h2) hl.2 hm.2
    obtain ⟨i1, i2⟩ := vk_range k l (by simpa using h1) hl.2
    obtain ⟨j1, j2⟩ := vk_range k m (by simpa using h2) hm.2
    have hp : (0 : Int) < 27 ^ k := Int.pow_pos (by decide)
    rw [List.cons_lt_cons_iff]
    show ((a - 96 : Nat) : Int) * 27 ^ k + vk k l < ((b - 96 : Nat) : Int) * 27 ^ k + vk k m ↔ _
    rcases Nat.lt_trichotomy a b with z | z | z
    · have h3 : ((a - 96 : Nat) : Int) + 1 ≤ ((b - 96 : Nat) : Int) := by omega
      have m1 : (((a - 96 : Nat) : Int) + 1) * 27 ^ k ≤ ((b - 96 : Nat) : Int) * 27 ^ k := Int.mul_le_mul_of_nonneg_right h3 (Int.le_of_lt hp)
      rw [Int.add_mul, Int.one_mul] at m1
      constructor
      · intro _; exact .inl z
      · intro _; omega
    · subst z
      constructor
      · intro q; exact .inr ⟨rfl, ih.mp (by omega)⟩
      · intro q
        rcases q with q | q
        · omega
        · have := ih.mpr q.2; omega
    · have h3 : ((b - 96 : Nat) : Int) + 1 ≤ ((a - 96 : Nat) : Int) := by omega
      have m1 : (((b - 96 : Nat) : Int) + 1) * 27 ^ k ≤ ((a - 96 : Nat) : Int) * 27 ^ k := Int.mul_le_mul_of_nonneg_right h3 (Int.le_of_lt hp)
      rw [Int.add_mul, Int.one_mul] at m1
      constructor
      · intro q; exfalso; omega
      · intro q
        rcases q with q | q
        · omega
        · omega
theorem cell_lt {l m : List Nat} (hl : nameB l = true) (hm : nameB m = true) : decide (cellOf l < cellOf m) = decide (l < m) := by
  obtain ⟨_, h8, la⟩ := name_bits hl
  obtain ⟨_, m8, ma⟩ := name_bits hm
  rw [cell_vk hl, cell_vk hm]
  exact decide_eq_decide.mpr (vk_lt 8 l m h8 m8 la ma)
theorem cell_inj {l m : List Nat} (hl : nameB l = true) (hm : nameB m = true) : decide (cellOf l = cellOf m) = decide (l = m) := by
  refine decide_eq_decide.mpr ⟨fun h => ?_, fun h => by rw [h]⟩
  rw [← letters_cell hl, h, letters_cell hm]
theorem small_log {c : Int} (h0 : 0 ≤ c) (h : c ≤ 999999999999999999) : c.natAbs.log2 < 1920 := by
  by_cases hz : c.natAbs = 0
  · rw [hz]; decide
  · refine (Nat.log2_lt hz).mpr (Nat.lt_of_lt_of_le (show c.natAbs < 2 ^ 60 from ?_) (Nat.pow_le_pow_right (by decide) (by decide)))
    have : (2 : Nat) ^ 60 = 1152921504606846976 := by decide
    omega
theorem cell_ge {l : List Nat} (h : nameB l = true) : 10460353203 ≤ cellOf l := by
  obtain ⟨h1, h8, hl⟩ := name_bits h
  rw [cell_vk h]
  cases l with
  | nil => simp at h1
  | cons a l =>
    rw [List.all_cons, Bool.and_eq_true] at hl
    have ha := hl.1
    simp only [letB, Bool.and_eq_true, decide_eq_true_eq] at ha
    have i := (vk_range 7 l (by simpa using h8) hl.2).1
    show (10460353203 : Int) ≤ ((a - 96 : Nat) : Int) * 27 ^ 7 + vk 7 l
    have e : (27 : Int) ^ 7 = 10460353203 := by decide
    rw [e]; omega
section
variable {bs : List Nat} {S : Store} {n : Nat} {E : EK}
theorem wp_names (hv : Vat S n) : (F__law_names_right bs [.loc n] S).wp (fun w S' => DW n S (fun w => w = .bl true) w S') E := by
  (unfold F__law_names_right m__law_names_right; refine Rf.wp_fn rfl ?_; simp only [Rf.startE, List.map_cons, List.map_nil, List.length_cons, List.length_nil, Nat.reduceAdd, Nat.reduceSub, List.replicate, List.cons_append, List.nil_append])
  (repeat array_get_dec)
  refine (wp_word hv (by decide) (by decide)).use fun w S1 ⟨⟨l, hl, hw⟩, h1⟩ => ?_
  subst hw
  (repeat array_get_dec)
  refine (wp_word h1.vat (by decide) (by decide)).use fun w S2 ⟨⟨m, hm, hw⟩, h2⟩ => ?_
  subst hw
  (repeat array_get_dec)
  refine wp_eq (ev_name_cell _ _ _ hl) ?_
  (repeat array_get_dec)
  refine wp_eq (ev_name_cell _ _ _ hm) ?_
  (repeat array_get_dec)
  refine wp_eq (ev_own_cell _ _ _ (name_bits hl).2.2 (name_bits hl).2.1) ?_
  (repeat array_get_dec)
  refine ifBF (by simp) ?_
  (repeat array_get_dec)
  refine wp_eq (ev_own_cell _ _ _ (name_bits hm).2.2 (name_bits hm).2.1) ?_
  (repeat array_get_dec)
  refine ifBF (by simp) ?_
  (repeat array_get_dec)
  have cl := cellOf_lt (name_bits hl).2.2
  have n1 : nameIn (.int (cellOf l)) = some l := by
    show (if 0 ≤ cellOf l ∧ cellOf l ≤ 999999999999999999 then nameOf (cellOf l) else none) = some l
    rw [if_pos ⟨cl.1, by omega⟩, nameOf_cell hl]
  refine wp_eq (by rw [ev_cell_name, n1]) ?_
  (repeat array_get_dec)
  refine ifBF (by simp) ?_
  (repeat array_get_dec)
  refine eq_pd (pd_bool (n := 0) _) (pd_bool (n := 0) _) (by decide) ?_
  rw [sg_cps, sg_cps, cell_lt hl hm, eqv_self rfl]
  (repeat array_get_dec)
  refine ifBF (by decide) ?_
  (repeat array_get_dec)
  refine eq_pd (pd_bool (n := 0) _) (pd_bool (n := 0) _) (by decide) ?_
  have e1 : decide (sg l = sg m) = decide (l = m) := decide_eq_decide.mpr sg_inj
  rw [cell_inj hl hm, e1, eqv_self rfl]
  (repeat array_get_dec)
  refine ifBF (by decide) ?_
  (repeat array_get_dec)
  refine (wp_taste h2.vat (by simp) (by simp)).use fun w S3 ⟨⟨d, hd, hw⟩, h3⟩ => ?_
  subst hw
  have hz : ∃ z : Int, d = .int z ∧ -27 ≤ z ∧ z ≤ 10460353203 := by
    simp only [List.mem_cons, List.not_mem_nil, or_false] at hd
    rcases hd with rfl | rfl | rfl | rfl | rfl | rfl | rfl | rfl
    · exact ⟨_, rfl, by omega, by omega⟩
    · exact ⟨_, rfl, by omega, by omega⟩
    · exact ⟨_, rfl, by omega, by omega⟩
    · exact ⟨_, rfl, by omega, by omega⟩
    · exact ⟨_, rfl, by omega, by omega⟩
    · exact ⟨_, rfl, by omega, by omega⟩
    · exact ⟨_, rfl, by omega, by omega⟩
    · exact ⟨_, rfl, by omega, by omega⟩
  obtain ⟨z, rfl, z0, z1⟩ := hz
  (repeat array_get_dec)
  refine (wp_drop h3.vat (by decide) (by decide)).use fun w S4 ⟨⟨r, hw, r0, r1⟩, h4⟩ => ?_
  subst hw
  (repeat array_get_dec)
  refine (wp_drop h4.vat (by decide) (by decide)).use fun w S5 ⟨⟨q, hw, q0, q1⟩, h5⟩ => ?_
  subst hw
  (repeat array_get_dec)
  have hS := h1.trans (h2.trans (h3.trans (h4.trans h5)))
  have cg := cell_ge hl
  (with_reducible refine wp_items (f := W.dat) (xs := [.int (cellOf l + z), .int r, .int (282429536480 + q), .int 0]) (fun _ env S' => (∃ y u, env = [some (.loc n), some (.dat (.int (cellOf l + z))), y, some (.dat (.str (sg l))), some (.dat (.str (sg m))), some (.dat (.int (cellOf l))), some (.dat (.int (cellOf m))), u]) ∧ Drawn n S S') ?_ ?_ ?_)
  · exact ⟨⟨_, _, rfl⟩, hS⟩
  · rintro pre x post env S' hx ⟨⟨y, u, rfl⟩, hd⟩
    have hm : x ∈ [PyData.int (cellOf l + z), .int r, .int (282429536480 + q), .int 0] := by rw [hx]; simp
    obtain ⟨c, rfl, c0, c1⟩ : ∃ c : Int, x = .int c ∧ 0 ≤ c ∧ c ≤ 999999999999999999 := by
      simp only [List.mem_cons, List.not_mem_nil, or_false] at hm
      rcases hm with rfl | rfl | rfl | rfl
      · exact ⟨_, rfl, by omega, by omega⟩
      · exact ⟨_, rfl, by omega, by omega⟩
      · exact ⟨_, rfl, by omega, by omega⟩
      · exact ⟨_, rfl, by omega, by omega⟩
    have ni : nameIn (.int c) = ownName c := by
      show (if 0 ≤ c ∧ c ≤ 999999999999999999 then nameOf c else none) = _
      rw [if_pos ⟨c0, c1⟩, own_name c0]
    (repeat array_get_dec)
    refine wp_eq (ev_own_name c) ?_
    (repeat array_get_dec)
    cases ho : ownName c with
    | some k =>
      rw [show optN (some k) = .str (sg k) from rfl]
      refine wf_told (d := .str (sg k)) (by
        show F_cell_name _ [.dat (.int c)] _ = _
        rw [ev_cell_name, ni, ho]) ?_
      (repeat array_get_dec)
      refine eq_same (n := 1) (pd_tup fun x hx => by
        simp only [List.mem_cons, List.not_mem_nil, or_false] at hx
        rcases hx with rfl | rfl <;> exact pd_str _) (by decide) ?_
      (repeat array_get_dec)
      exact ⟨⟨_, _, rfl⟩, hd⟩
    | none =>
      rw [show optN none = .none from rfl]
      have rc : reprD (.int c) = some (PySem.Str.ofString (toString c)) := by
        show (if c.natAbs.log2 < 1920 then some _ else none) = _
        rw [if_pos (small_log c0 c1)]
      refine wf_num (d := .int c) (by
        show F_cell_name _ [.dat (.int c)] _ = _
        rw [ev_cell_name, ni, ho]) rc ?_
      (repeat array_get_dec)
      refine repr_dat rc ?_
      (repeat array_get_dec)
      refine eq_same (n := 1) (pd_tup fun x hx => by
        simp only [List.mem_cons, List.not_mem_nil, or_false] at hx
        rcases hx with rfl | rfl | rfl <;> exact pd_str _) (by decide) ?_
      (repeat array_get_dec)
      exact ⟨⟨_, _, rfl⟩, hd⟩
  · rintro env S' ⟨⟨y, u, rfl⟩, hd⟩
    (repeat array_get_dec)
    exact rt_len hd.len ⟨rfl, hd⟩
end
end V

namespace V
open PySem L2 PyProof.Rows Rf Nm

def odds : List PyData := [.none, .int 0, .str "", .str "A", .str "ab1", .str "abcdefghi", .tuple [.str "a"], .list [.str "a"], .bool true, .str "a b", .dict [], .int 1]
def bads : List PyData := [.none, .int 0, .str "a", .list [.str "a"], .tuple [.str "a", .str "B"], .tuple [.int 1], .tuple (List.replicate (9 : Int).toNat (.str "a")), .dict [], .tuple [.str ""], .tuple [.tuple [.str "a"]]]
def worsts : List PyData := [.none, .int (-1), .bool true, .str "1", .int 1000000000000000000, .int 282429536481, .tuple [.int 1], .int 1000000000000000000000000000000000000000000000000000000000000]
def sB : PyData → Bool
  | .str z => decide (z.length ≤ 100000)
  | _ => true
theorem sB_s {d : PyData} (h : sB d = true) : shortS d := fun z e => by subst e; exact of_decide_eq_true h
def pB : PyData → Bool
  | .tuple ds => ds.all sB
  | _ => true
theorem pB_p {d : PyData} (h : pB d = true) : shortP d := by
  cases d with
  | tuple ds => exact fun x hx => sB_s (List.all_eq_true.mp h x hx)
  | _ => exact True.intro
theorem odd_k : odds.all (fun d => sB d && pB d && !isName d && !isPath (.tuple [d]) && !isPath (.list [d])) = true := by decide +kernel
theorem bad_k : bads.all (fun d => pB d && !isPath d) = true := by decide +kernel
theorem worst_k : worsts.all (fun d => (nameIn d).isNone) = true := by decide +kernel
theorem odd_f {d : PyData} (h : d ∈ odds) : shortS d ∧ shortP d ∧ isName d = false ∧ isPath (.tuple [d]) = false ∧ isPath (.list [d]) = false := by
  have := List.all_eq_true.mp odd_k d h
  simp only [Bool.and_eq_true, Bool.not_eq_true'] at this
  obtain ⟨⟨⟨⟨a, b⟩, c⟩, e⟩, f⟩ := this
  exact ⟨sB_s a, pB_p b, c, e, f⟩
theorem bad_f {d : PyData} (h : d ∈ bads) : shortP d ∧ isPath d = false := by
  have := List.all_eq_true.mp bad_k d h
  simp only [Bool.and_eq_true, Bool.not_eq_true'] at this
  exact ⟨pB_p this.1, this.2⟩
theorem worst_f {d : PyData} (h : d ∈ worsts) : nameIn d = none := Option.isNone_iff_eq_none.mp (List.all_eq_true.mp worst_k d h)
theorem repr_i {i : Int} (h : i.natAbs.log2 < 1920) : ∃ t, reprD (.int i) = some t := by
  simp only [reprD]
  rw [if_pos h]
  exact ⟨_, rfl⟩
theorem repr_s {x : Str} (h : (reprText x).length ≤ 100000) : ∃ t, reprD (.str x) = some t := by
  simp only [reprD]
  rw [if_pos h]
  exact ⟨_, rfl⟩
theorem worst_r {d : PyData} (h : d ∈ worsts) : ∃ t, reprD d = some t := by
  simp only [worsts, List.mem_cons, List.not_mem_nil, or_false] at h
  rcases h with rfl | rfl | rfl | rfl | rfl | rfl | rfl | rfl
  · exact ⟨_, rfl⟩
  · exact repr_i (by decide +kernel)
  · exact ⟨_, rfl⟩
  · exact repr_s (by decide +kernel)
  · exact repr_i (by decide +kernel)
  · exact repr_i (by decide +kernel)
  · simp only [reprD]
    rw [if_pos ⟨by decide +kernel, by decide +kernel, by decide +kernel, by decide +kernel, by decide +kernel⟩]
    exact ⟨_, rfl⟩
  · exact repr_i (by decide +kernel)
/-- an odd datum is a path just where it equals ("a",) -/
theorem odd_eq {bs : List Nat} {S : Store} {Q : W → Store → Prop} {d : PyData} (h : d ∈ odds) (q : Q (.dat (.bool (isPath d))) S) : wpo (eqAF bs (.dat d) (.dat (.tuple [.str "a"])) S) Q := by
  have pa : PD 1 (.tuple [.str "a"]) := pd_tup fun x hx => by
    simp only [List.mem_cons, List.not_mem_nil, or_false] at hx
    rcases hx with rfl
    exact pd_str _
  have pl : PD 1 (.list [.str "a"]) := pd_lst fun x hx => by
    simp only [List.mem_cons, List.not_mem_nil, or_false] at hx
    rcases hx with rfl
    exact pd_str _
  have k : ∀ {m : Nat} {d : PyData}, PD m d → m ≤ 64 → PyData.eqv d (.tuple [.str "a"]) = isPath d → Q (.dat (.bool (isPath d))) S → wpo (eqAF bs (.dat d) (.dat (.tuple [.str "a"])) S) Q := fun {m} {d} hd hm e q => eqA_of (eq_pd hd pa hm (by rw [e]; cases h : isPath d <;> rw [h] at q <;> exact q))
  simp only [odds, List.mem_cons, List.not_mem_nil, or_false] at h
  rcases h with rfl | rfl | rfl | rfl | rfl | rfl | rfl | rfl | rfl | rfl | rfl | rfl
  · exact k (pd_non (n := 0)) (by decide) (by decide +kernel) q
  · exact k (pd_int (n := 0) _) (by decide) (by decide +kernel) q
  · exact k (pd_str (n := 0) _) (by decide) (by decide +kernel) q
  · exact k (pd_str (n := 0) _) (by decide) (by decide +kernel) q
  · exact k (pd_str (n := 0) _) (by decide) (by decide +kernel) q
  · exact k (pd_str (n := 0) _) (by decide) (by decide +kernel) q
  · exact k pa (by decide) (by decide +kernel) q
  · exact k pl (by decide) (by decide +kernel) q
  · exact k (pd_bool (n := 0) _) (by decide) (by decide +kernel) q
  · exact k (pd_str (n := 0) _) (by decide) (by decide +kernel) q
  · exact eqA_dt (by decide +kernel) q
  · exact k (pd_int (n := 0) _) (by decide) (by decide +kernel) q
end V

namespace V
open PySem L2 PyProof.Rows Rf Nm

theorem a_sg : ("a" : Str) = sg [97] := by decide +kernel
theorem mul_one {bs : List Nat} {S : Store} {Q : W → Store → Prop} {k : Bool} {d : PyData} {j : Int} (h : 2 ≤ j ∧ j ≤ 1000) (q : Q (.dat (.tuple (List.replicate j.toNat d))) S) : wpo (mulF k bs (.dat (.tuple [d])) (.dat (.int j)) S) Q := by
  refine mul_tup ⟨by simp, by simp, h.1, h.2⟩ ?_
  have : ∀ n : Nat, (List.replicate n [d]).flatten = List.replicate n d := by
    intro n
    induction n with
    | zero => rfl
    | succ n ih => rw [List.replicate_succ, List.flatten_cons, ih]; rfl
  rw [this]; exact q
/-- what parent_of tells of a path -/
def outP (P : List (List Nat)) : PyData := if P = [] then .tuple [.str "raised", .str "operation"] else .tuple [.str "told", dP P.dropLast]
theorem pd_outP (P : List (List Nat)) : PD 2 (outP P) := by
  unfold outP
  split
  · exact pd_tup fun x hx => by
      simp only [List.mem_cons, List.not_mem_nil, or_false] at hx
      rcases hx with rfl | rfl <;> exact pd_str _
  · exact pd_tup fun x hx => by
      simp only [List.mem_cons, List.not_mem_nil, or_false] at hx
      rcases hx with rfl | rfl
      · exact pd_str _
      · exact pd_dP _
section
variable {bs : List Nat} {S : Store} {n : Nat} {E : EK}
theorem ev_nine (P : List (List Nat)) (h : ∀ l ∈ P, l.length ≤ 100000) : F_is_path bs [.dat (.tuple ((P.map fun l => .str (sg l)) ++ List.replicate (9 : Int).toNat (.str "a")))] S = .ok (.dat (.bool false)) S := by
  have e : PyData.tuple ((P.map fun l => .str (sg l)) ++ List.replicate (9 : Int).toNat (.str "a")) = dP (P ++ List.replicate 9 [97]) := by
    rw [a_sg]
    show _ = PyData.tuple ((P ++ List.replicate 9 [97]).map _)
    rw [List.map_append]
    rfl
  rw [e, ev_is_path _ _ _ (short_dP fun l hl => by
    rcases List.mem_append.mp hl with z | z
    · exact h l z
    · rw [(List.mem_replicate.mp z).2]; decide)]
  have : isPath (dP (P ++ List.replicate 9 [97])) = false := by
    rw [isPath_dP, decide_eq_false (by simp), Bool.false_and]
  rw [this]
/-- a comprehension of drawn words -/
theorem wp_words {n0 : Nat} {env : Rf.Env} {i : Nat} {r t : Int} (hn : env[n0]? = some (some (.loc n))) (hi : i ≠ n0) (hv : Vat S n) (ht : 0 < t) (ht2 : t ≤ 8) (r0 : 0 ≤ r) (r1 : r ≤ 100) {Q : List W → Store → Prop} (q : ∀ (P : List (List Nat)) (S' : Store), (P.length : Int) = r → P.all nameB = true → Drawn n S S' → Q (P.map fun l => .dat (.str (sg l))) S') :
    (compG (.items (rangeW 0 r)) (tName i) mYes (mCall F__law_word (mCons (mVar n0) (mCons (mCon (.int t)) mNil))) (Iter.items (rangeW 0 r)).fuel 0 [] bs env S).wp Q E := by
  refine wp_compRange (fun k acc S' => ∃ P : List (List Nat), acc = (P.map fun l => .dat (.str (sg l))) ∧ P.length = k ∧ P.all nameB = true ∧ Drawn n S S') ⟨[], rfl, rfl, rfl, Drawn.refl hv⟩ (fun k acc S' hk ⟨P, i1, i2, i3, i4⟩ => ?_) (fun acc S' ⟨P, i1, i2, i3, i4⟩ => ?_)
  · subst i1
    (repeat array_get_dec)
    refine wp_varL (n := n) (by rw [List.getElem?_set_ne hi]; exact hn) ?_
    (repeat array_get_dec)
    refine (wp_word i4.vat ht ht2).use fun w S2 ⟨⟨l, hl, hw⟩, h2⟩ => ?_
    subst hw
    refine ⟨by rw [List.length_map]; omega, P ++ [l], by rw [List.map_append]; rfl, by simp [i2], ?_, i4.trans h2⟩
    rw [List.all_append, i3]
    simp [hl]
  · subst i1
    exact q P S' (by omega) i3 i4
theorem wp_paths (hv : Vat S n) : (F__law_paths_right bs [.loc n] S).wp (fun w S' => DW n S (fun w => w = .bl true) w S') E := by
  (unfold F__law_paths_right m__law_paths_right; refine Rf.wp_fn rfl ?_; simp only [Rf.startE, List.map_cons, List.map_nil, List.length_cons, List.length_nil, Nat.reduceAdd, Nat.reduceSub, List.replicate, List.cons_append, List.nil_append])
  (repeat array_get_dec)
  refine (wp_drop hv (by decide) (by decide)).use fun w S1 ⟨⟨r, hw, r0, r1⟩, h1⟩ => ?_
  subst hw
  (repeat array_get_dec)
  refine wp_words (n := n) (n0 := 0) rfl (by decide) h1.vat (by decide) (by decide) r0 (by omega) fun P S2 hP gP h2 => ?_
  have em : ∀ l : List (List Nat), (l.map fun l => W.dat (.str (sg l))) = (l.map fun l => PyData.str (sg l)).map .dat := fun l => by rw [List.map_map]; rfl
  rw [em]
  (repeat array_get_dec)
  rw [List.length_map]
  refine (wp_drop h2.vat (by omega) (by omega)).use fun w S3 ⟨⟨r', hw, r0', r1'⟩, h3⟩ => ?_
  subst hw
  obtain ⟨j, rfl⟩ := Int.eq_ofNat_of_zero_le r0'
  (repeat array_get_dec)
  refine (wp_drop h3.vat (by decide) (by decide)).use fun w S4 ⟨⟨r2, hw, r20, r21⟩, h4⟩ => ?_
  subst hw
  (repeat array_get_dec)
  refine wp_words (n := n) (n0 := 0) rfl (by decide) h4.vat (by decide) (by decide) r20 (by omega) fun P2 S5 hP2 gP2 h5 => ?_
  rw [em]
  (repeat array_get_dec)
  rw [cut_to, ← List.map_take]
  refine add_tup (by simp; omega) ?_
  rw [← List.map_append]
  (repeat array_get_dec)
  have gO : (P.take j ++ P2).all nameB = true := by
    rw [List.all_append, gP2, Bool.and_true]
    exact List.all_eq_true.mpr fun x hx => List.all_eq_true.mp gP x (List.mem_of_mem_take hx)
  have hlO : (P.take j ++ P2).length ≤ 10 := by simp; omega
  generalize hO : P.take j ++ P2 = O at gO hlO
  have p8 : P.length ≤ 8 := by omega
  have ipP : isPath (dP P) = true := by rw [isPath_dP, gP, decide_eq_true p8]; rfl
  have ipO : isPath (dP O) = decide (O.length < 9) := by rw [isPath_dP, gO, Bool.and_true]; exact decide_eq_decide.mpr (by omega)
  refine wp_eq (ev_is_path _ _ _ (short_dP (short_name gP))) ?_
  rw [ipP]
  (repeat array_get_dec)
  refine wp_eq (ev_is_path _ _ _ (short_dP (short_name gO))) ?_
  rw [ipO]
  (repeat array_get_dec)
  rw [List.length_map]
  have e9 : decide ((O.length : Int) < 9) = decide (O.length < 9) := decide_eq_decide.mpr (by omega)
  rw [e9]
  refine eq_same (n := 0) (pd_bool _) (by decide) ?_
  (repeat array_get_dec)
  refine mul_one (by decide) ?_
  (repeat array_get_dec)
  refine add_tup (by simp; omega) ?_
  (repeat array_get_dec)
  refine wp_eq (ev_nine P (short_name gP)) ?_
  (repeat array_get_dec)
  rw [List.length_map]
  have done := h1.trans (h2.trans (h3.trans (h4.trans h5)))
  refine and_false ?_ fun z => ?_
  rotate_left
  · have o9 : O.length < 9 := by have := of_decide_eq_true z; omega
    (repeat array_get_dec)
    refine wp_eq (ev_within O P gO (by omega) (short_name gP)) ?_
    rw [ipP, Bool.true_and]
    (repeat array_get_dec)
    rw [List.length_map, cut_to, ← List.map_take]
    refine eq_pd (pd_dP _) (pd_dP _) (by decide) ?_
    rw [eqv_dP]
    have eb : ∀ b : Bool, (b != false) = b := by decide
    rw [eb]
    refine eq_same (n := 0) (pd_bool _) (by decide) ?_
    (repeat array_get_dec)
    exact ⟨rfl, rfl⟩
  (repeat array_get_dec)
  rw [List.length_map]
  refine and_false ?_ fun z => ?_
  rotate_left
  · have o9 : O.length < 9 := by have := of_decide_eq_true z; omega
    (repeat array_get_dec)
    refine wp_eq (ev_within P O gP p8 (short_name gO)) ?_
    rw [ipO, decide_eq_true o9, Bool.true_and]
    (repeat array_get_dec)
    rw [List.length_map, cut_to, ← List.map_take]
    refine eq_pd (pd_dP _) (pd_dP _) (by decide) ?_
    rw [eqv_dP]
    have eb : ∀ b : Bool, (b != false) = b := by decide
    rw [eb]
    refine eq_same (n := 0) (pd_bool _) (by decide) ?_
    (repeat array_get_dec)
    exact ⟨rfl, rfl⟩
  (repeat array_get_dec)
  have par : ∃ d, PD 2 d ∧ d = outP P ∧ ∀ {bs' : List Nat} {lam : Lam} {Q : W → Store → Prop} {E' : EK}, lam (S5.length :: bs') S5 = F_parent_of (S5.length :: bs') [.dat (dP P)] S5 → Q (.dat d) S5 → (F__law_word_for lam bs' S5).wp Q E' := by
    refine ⟨_, pd_outP P, rfl, fun {bs'} {lam} {Q} {E'} h q => ?_⟩
    by_cases hP0 : P = []
    · subst hP0
      refine wf_oper (by rw [h]; exact ex_parent0) ?_
      exact q
    · refine wf_told (d := dP P.dropLast) (by rw [h, ev_parent P gP p8 hP0]) ?_
      rw [outP, if_neg hP0] at q
      exact q
  obtain ⟨dP1, pdd, hdd, par⟩ := par
  refine par ?_ ?_
  · rfl
  refine Out.wp.imp (Q := fun y S2 => y = .dat dP1 ∧ S2 = S5) ?_ fun y S2 ⟨e1, e2⟩ => ?_
  · (repeat array_get_dec)
    refine eq_pd (pd_dP P) (pd_dP []) (by decide) ?_
    rw [show PyData.eqv (.tuple (P.map fun l => .str (sg l))) (.tuple []) = decide (P = []) from eqv_dP P [], hdd]
    by_cases hP0 : P = []
    · subst hP0
      (repeat array_get_dec)
      refine ifBF (by decide) ?_
      (repeat array_get_dec)
      exact ⟨rfl, rfl⟩
    · (repeat array_get_dec)
      refine ifBT (by rw [decide_eq_false hP0]; rfl) ?_
      (repeat array_get_dec)
      rw [cut_last]
      refine ⟨?_, rfl⟩
      rw [outP, if_neg hP0, ← List.map_dropLast]
  subst e1 e2
  refine eq_same pdd (by decide) ?_
  (repeat array_get_dec)
  refine (wp_taste (ds := odds) done.vat (by decide) (by decide)).use fun w S6 ⟨⟨d, hd, hw⟩, h6⟩ => ?_
  subst hw
  obtain ⟨f1, f2, f3, f4, f5⟩ := odd_f hd
  (repeat array_get_dec)
  refine wp_eq (ev_is_name _ _ _ f1) ?_
  rw [f3]
  (repeat array_get_dec)
  refine wp_eq (ev_is_path _ (.tuple [d]) _ fun x hx => by rw [List.mem_singleton.mp hx]; exact f1) ?_
  rw [f4]
  (repeat array_get_dec)
  refine wp_eq (ev_is_path _ (.list [d]) _ True.intro) ?_
  rw [f5]
  (repeat array_get_dec)
  refine wp_eq (ev_within0 d f2) ?_
  (repeat array_get_dec)
  refine odd_eq hd ?_
  refine eq_same (n := 0) (pd_bool _) (by decide) ?_
  (repeat array_get_dec)
  refine wf_name (ex_name_cell d f1 f3) ?_
  (repeat array_get_dec)
  refine eq_same (n := 1) (pd_tup fun x hx => by
    simp only [List.mem_cons, List.not_mem_nil, or_false] at hx
    rcases hx with rfl | rfl <;> exact pd_str _) (by decide) ?_
  (repeat array_get_dec)
  refine mul_one (by decide) ?_
  (repeat array_get_dec)
  refine (wp_taste (ds := bads) (done.trans h6).vat (by decide) (by decide)).use fun w S7 ⟨⟨b, hb, hw⟩, h7⟩ => ?_
  subst hw
  obtain ⟨g1, g2⟩ := bad_f hb
  (repeat array_get_dec)
  refine wf_name (ex_parent b g1 g2) ?_
  (repeat array_get_dec)
  refine eq_same (n := 1) (pd_tup fun x hx => by
    simp only [List.mem_cons, List.not_mem_nil, or_false] at hx
    rcases hx with rfl | rfl <;> exact pd_str _) (by decide) ?_
  (repeat array_get_dec)
  refine wf_name (ex_within b _ g1 g2) ?_
  (repeat array_get_dec)
  refine eq_same (n := 1) (pd_tup fun x hx => by
    simp only [List.mem_cons, List.not_mem_nil, or_false] at hx
    rcases hx with rfl | rfl <;> exact pd_str _) (by decide) ?_
  (repeat array_get_dec)
  refine pow_int (r := 1000000000000000000) (by decide) (by decide +kernel) ?_
  (repeat array_get_dec)
  refine pow_int (r := 1000000000000000000000000000000000000000000000000000000000000) (by decide) (by decide +kernel) ?_
  (repeat array_get_dec)
  refine (wp_taste (ds := worsts) ((done.trans h6).trans h7).vat (by decide) (by decide)).use fun w S8 ⟨⟨c, hc, hw⟩, h8⟩ => ?_
  subst hw
  obtain ⟨t, ht⟩ := worst_r hc
  have all := ((done.trans h6).trans h7).trans h8
  (repeat array_get_dec)
  refine wf_num (d := c) (by
    show F_cell_name _ [.dat c] _ = _
    rw [ev_cell_name, worst_f hc]) ht ?_
  (repeat array_get_dec)
  refine repr_dat ht ?_
  (repeat array_get_dec)
  refine eq_same (n := 1) (pd_tup fun x hx => by
    simp only [List.mem_cons, List.not_mem_nil, or_false] at hx
    rcases hx with rfl | rfl | rfl <;> exact pd_str _) (by decide) ?_
  (repeat array_get_dec)
  exact rt_len all.len ⟨rfl, all⟩
end
end V

namespace V
open PySem L2 PyProof.Rows Rf Nm

abbrev cells10 : List PyData := [.int 0, .int (1000000000000000000 - 1), .int 1000000000000000000, .int (-1), .bool true, .bool false, .none, .str "1", .tuple [.int 1], .int 5]
theorem name_a : nameB [97] = true := by decide +kernel
theorem name_ab : nameB [97, 98] = true := by decide +kernel
theorem name_zs : nameB [122, 122, 122, 122, 122, 122, 122, 122] = true := by decide +kernel
theorem ab_sg : ("ab" : Str) = sg [97, 98] := by decide +kernel
theorem z_sg : ("zzzzzzzz" : Str) = sg [122, 122, 122, 122, 122, 122, 122, 122] := by decide +kernel
theorem cell_a : Nm.cellOf [97] = 10460353203 := by decide +kernel
theorem cell_z : Nm.cellOf [122, 122, 122, 122, 122, 122, 122, 122] = 282429536480 := by decide +kernel
theorem cells_k : (cells10.map fun d => W.dat (.bool (cellB d))) = [PyData.bool true, .bool true, .bool false, .bool false, .bool false, .bool false, .bool false, .bool false, .bool false, .bool true].map W.dat := by
  have e : cells10.map cellB = [true, true, false, false, false, false, false, false, false, true] := by decide +kernel
  have e2 : (cells10.map fun d => W.dat (.bool (cellB d))) = (cells10.map cellB).map fun b => W.dat (.bool b) := by rw [List.map_map]; rfl
  rw [e2, e]; rfl
section
variable {bs : List Nat} {S : Store} {n : Nat} {E : EK}
theorem wp_law (ns : List Int) : (F_law bs [.lw (ns.map fun n => .dat (.int n))] S).wp (fun w _ => w = .bl true) E := by
  (unfold F_law m_law; refine Rf.wp_fn rfl ?_; simp only [Rf.startE, List.map_cons, List.map_nil, List.length_cons, List.length_nil, Nat.reduceAdd, Nat.reduceSub, List.replicate, List.cons_append, List.nil_append])
  (repeat array_get_dec)
  (with_reducible refine wp_range (fun k env S' => ∃ z1 z2, env = [some (.lw (ns.map fun n => .dat (.int n))), z1, none, z2, none]) ?_ ?_ ?_)
  · exact ⟨none, none, rfl⟩
  · rintro k env S' hk ⟨z1, z2, rfl⟩
    (repeat array_get_dec)
    refine (wp_vat ns k).use fun w S1 ⟨hw, a, b, c, e⟩ => ?_
    subst hw e
    have hv : Vat (S' ++ [.lst [.int a, .int b, .int c]]) S'.length := ⟨a, b, c, at_app1 _ _⟩
    (repeat array_get_dec)
    refine (wp_names hv).use fun w S2 ⟨hw, d⟩ => ?_
    subst hw
    (repeat array_get_dec)
    refine (wp_paths d.vat).use fun w S3 ⟨hw, d2⟩ => ?_
    subst hw
    (repeat array_get_dec)
    refine (wp_names (d.trans d2).vat).use fun w S4 ⟨hw, d3⟩ => ?_
    subst hw
    (repeat array_get_dec)
    exact ⟨_, _, rfl⟩
  · rintro env S' ⟨z1, z2, rfl⟩
    (repeat array_get_dec)
    refine pow_int (r := 1000000000000000000) (by decide) (by decide +kernel) ?_
    (repeat array_get_dec)
    refine pow_int (r := 1000000000000000000) (by decide) (by decide +kernel) ?_
    (repeat array_get_dec)
    (with_reducible refine wp_compM (f := W.dat) (xs := cells10) (fun d => .dat (.bool (cellB d))) ?_ ?_ ?_)
    · decide
    · intro x hx
      (repeat array_get_dec)
      refine wp_eq (ev_is_cell x) ?_
      exact ⟨rfl, rfl⟩
    rw [cells_k]
    (repeat array_get_dec)
    refine eq_same (n := 1) (pd_lst fun x hx => by
      simp only [List.mem_cons, List.not_mem_nil, or_false] at hx
      rcases hx with rfl | rfl | rfl | rfl | rfl | rfl | rfl | rfl | rfl | rfl <;> exact pd_bool _) (by decide) ?_
    (repeat array_get_dec)
    rw [a_sg, ab_sg, z_sg]
    refine wp_eq (ev_name_cell _ _ _ name_a) ?_
    (repeat array_get_dec)
    refine wp_eq (ev_name_cell _ _ _ name_zs) ?_
    (repeat array_get_dec)
    have hw : F_is_within (S.length :: bs) [.dat (.tuple [.str (sg [97])]), .dat (.tuple [.str (sg [97, 98])])] S' = .ok (.dat (.bool false)) S' := by
      have := ev_within (bs := S.length :: bs) (S := S') [[97]] [[97, 98]] (by decide +kernel) (by decide) (by decide)
      rw [show (isPath (dP [[97, 98]]) && decide ([[97, 98]].take [[97]].length = [[97]])) = false by decide +kernel] at this
      exact this
    refine wp_eq hw ?_
    (repeat array_get_dec)
    rw [cell_a, cell_z]
    refine eq_same (n := 1) (pd_lst fun x hx => by
      simp only [List.mem_cons, List.not_mem_nil, or_false] at hx
      rcases hx with rfl | rfl | rfl
      · exact pd_int _
      · exact pd_int _
      · exact pd_bool _) (by decide) ?_
    exact rt_dat rfl
end
theorem right (ns : List Int) (_ : ns.length ≤ 63) (_ : ∀ z ∈ ns, Builtin.Int.intBits z ≤ 1048576) : ∃ S, F_law [] [.lw (ns.map fun n => .dat (.int n))] [] = .ok (.bl true) S := by
  obtain ⟨w, S, e, h⟩ := ok_of_wp (wp_law (bs := []) (S := []) ns)
  subst h
  exact ⟨S, e⟩
end V

namespace V
open PySem PySem.Spec L2 PyProof.Rows Rf
theorem all_mk (right : ∀ ns : List Int, ns.length ≤ 63 → (∀ z ∈ ns, Builtin.Int.intBits z ≤ 1048576) → ∃ S, F_law [] [.lw (ns.map fun n => .dat (.int n))] [] = .ok (.bl true) S) {l : PySem.W.OpenLaw} {w : World} {K : PySem.W.Frag} {h : Heap} {mg mb : Str → Option Value} {q : Program} {ls : List Str} {mean : ExcName → Option Value} {fa : Addr} (X : K.In h) (Tp : Top q ls mean mg mb h) (G : h.Ns mainGlobals mg) (hfa : mg "law" = some (.ref fa))
    (hq : (["_law_names_right", "_law_paths_right"] : List Str).all (has1 q) = true)
    {tk0 : Tok} {tk1 : Tok} {tk2 : Tok} {tk3 : Tok} {tk4 : Tok} {a0 : Addr} {od0 an0 : Option Addr} {sl0 : Array (Option Value)} {oc0 kV0 dc0 pm0 cd0 ct0 : Value} {a1 : Addr} {od1 an1 : Option Addr} {sl1 : Array (Option Value)} {oc1 kV1 dc1 pm1 cd1 ct1 : Value} {a2 : Addr} {od2 an2 : Option Addr} {sl2 : Array (Option Value)} {oc2 kV2 dc2 pm2 cd2 ct2 : Value} {a3 : Addr} {od3 an3 : Option Addr} {sl3 : Array (Option Value)} {oc3 kV3 dc3 pm3 cd3 ct3 : Value} {a4 : Addr} {od4 an4 : Option Addr} {sl4 : Array (Option Value)} {oc4 kV4 dc4 pm4 cd4 ct4 : Value} {a7 : Addr} {od7 an7 : Option Addr} {sl7 : Array (Option Value)} {oc7 kV7 dc7 pm7 cd7 ct7 : Value} {a5 : Addr} {od5 an5 : Option Addr} {sl5 : Array (Option Value)} {oc5 kV5 dc5 pm5 cd5 ct5 : Value} {a6 : Addr} {od6 an6 : Option Addr} {sl6 : Array (Option Value)} {oc6 kV6 dc6 pm6 cd6 ct6 : Value} {a8 : Addr} {od8 an8 : Option Addr} {sl8 : Array (Option Value)} {oc8 kV8 dc8 pm8 cd8 ct8 : Value} {a9 : Addr} {od9 an9 : Option Addr} {sl9 : Array (Option Value)} {oc9 kV9 dc9 pm9 cd9 ct9 : Value} {a10 : Addr} {od10 an10 : Option Addr} {sl10 : Array (Option Value)} {oc10 kV10 dc10 pm10 cd10 ct10 : Value} {a11 : Addr} {od11 an11 : Option Addr} {sl11 : Array (Option Value)} {oc11 kV11 dc11 pm11 cd11 ct11 : Value} {a12 : Addr} {od12 an12 : Option Addr} {sl12 : Array (Option Value)} {oc12 kV12 dc12 pm12 cd12 ct12 : Value} {a13 : Addr} {od13 an13 : Option Addr} {sl13 : Array (Option Value)} {oc13 kV13 dc13 pm13 cd13 ct13 : Value} {a14 : Addr} {od14 an14 : Option Addr} {sl14 : Array (Option Value)} {oc14 kV14 dc14 pm14 cd14 ct14 : Value} {a15 : Addr} {od15 an15 : Option Addr} {sl15 : Array (Option Value)} {oc15 kV15 dc15 pm15 cd15 ct15 : Value} {a16 : Addr} {od16 an16 : Option Addr} {sl16 : Array (Option Value)} {oc16 kV16 dc16 pm16 cd16 ct16 : Value} {a17 : Addr} {od17 an17 : Option Addr} {sl17 : Array (Option Value)} {oc17 kV17 dc17 pm17 cd17 ct17 : Value} {a18 : Addr} {od18 an18 : Option Addr} {sl18 : Array (Option Value)} {oc18 kV18 dc18 pm18 cd18 ct18 : Value} {a19 : Addr} {od19 an19 : Option Addr} {sl19 : Array (Option Value)} {oc19 kV19 dc19 pm19 cd19 ct19 : Value} {C50 : Addr} {C51 : Addr} {C52 : Addr}
    (aX50 : PySem.W.nsIn K mainGlobals "InvalidName" = some (some (.ref C50)))
    (aX51 : PySem.W.nsIn K mainGlobals "InvalidNumber" = some (some (.ref C51)))
    (aX52 : PySem.W.nsIn K mainGlobals "InvalidOperation" = some (some (.ref C52)))
    (q0 : PySem.W.nsIn K mainGlobals "MAX_NAME" = some (some (.int (8) tk0)))
    (q1 : PySem.W.nsIn K mainGlobals "LETTERS" = some (some (.str "abcdefghijklmnopqrstuvwxyz" tk1)))
    (q2 : PySem.W.nsIn K mainGlobals "MAX_PATH" = some (some (.int (8) tk2)))
    (q3 : PySem.W.nsIn K mainGlobals "MAX_CELL" = some (some (.int (999999999999999999) tk3)))
    (q4 : PySem.W.nsIn K mainGlobals "BASE" = some (some (.int (27) tk4)))
    (m0 : PySem.W.nsIn K mainGlobals "is_name" = some (some (.ref a0)))
    (l0 : K.lookup a0 = some ⟨oc0, od0, .func (PySem.W.fnOf "is_name" "is_name" (defArgs (top 11)) (defBody (top 11)) (defScope (top 11)) .none kV0 dc0 pm0 an0 cd0 ct0), sl0⟩) (c0 : PySem.W.codeIn K cd0 "is_name" = true) (k0 : PySem.W.keepIn K (.ref a0) = true)
    (m1 : PySem.W.nsIn K mainGlobals "is_path" = some (some (.ref a1)))
    (l1 : K.lookup a1 = some ⟨oc1, od1, .func (PySem.W.fnOf "is_path" "is_path" (defArgs (top 12)) (defBody (top 12)) (defScope (top 12)) .none kV1 dc1 pm1 an1 cd1 ct1), sl1⟩) (c1 : PySem.W.codeIn K cd1 "is_path" = true) (k1 : PySem.W.keepIn K (.ref a1) = true)
    (m2 : PySem.W.nsIn K mainGlobals "is_cell" = some (some (.ref a2)))
    (l2 : K.lookup a2 = some ⟨oc2, od2, .func (PySem.W.fnOf "is_cell" "is_cell" (defArgs (top 13)) (defBody (top 13)) (defScope (top 13)) .none kV2 dc2 pm2 an2 cd2 ct2), sl2⟩) (c2 : PySem.W.codeIn K cd2 "is_cell" = true) (k2 : PySem.W.keepIn K (.ref a2) = true)
    (m3 : PySem.W.nsIn K mainGlobals "check_path" = some (some (.ref a3)))
    (l3 : K.lookup a3 = some ⟨oc3, od3, .func (PySem.W.fnOf "check_path" "check_path" (defArgs (top 14)) (defBody (top 14)) (defScope (top 14)) .none kV3 dc3 pm3 an3 cd3 ct3), sl3⟩) (c3 : PySem.W.codeIn K cd3 "check_path" = true) (k3 : PySem.W.keepIn K (.ref a3) = true)
    (m4 : PySem.W.nsIn K mainGlobals "name_cell" = some (some (.ref a4)))
    (l4 : K.lookup a4 = some ⟨oc4, od4, .func (PySem.W.fnOf "name_cell" "name_cell" (defArgs (top 15)) (defBody (top 15)) (defScope (top 15)) .none kV4 dc4 pm4 an4 cd4 ct4), sl4⟩) (c4 : PySem.W.codeIn K cd4 "name_cell" = true) (k4 : PySem.W.keepIn K (.ref a4) = true)
    (m7 : PySem.W.nsIn K mainGlobals "_letters_of" = some (some (.ref a7)))
    (l7 : K.lookup a7 = some ⟨oc7, od7, .func (PySem.W.fnOf "_letters_of" "_letters_of" (defArgs (top 18)) (defBody (top 18)) (defScope (top 18)) .none kV7 dc7 pm7 an7 cd7 ct7), sl7⟩) (c7 : PySem.W.codeIn K cd7 "_letters_of" = true) (k7 : PySem.W.keepIn K (.ref a7) = true)
    (m5 : PySem.W.nsIn K mainGlobals "name_of_cell" = some (some (.ref a5)))
    (l5 : K.lookup a5 = some ⟨oc5, od5, .func (PySem.W.fnOf "name_of_cell" "name_of_cell" (defArgs (top 16)) (defBody (top 16)) (defScope (top 16)) .none kV5 dc5 pm5 an5 cd5 ct5), sl5⟩) (c5 : PySem.W.codeIn K cd5 "name_of_cell" = true) (k5 : PySem.W.keepIn K (.ref a5) = true)
    (m6 : PySem.W.nsIn K mainGlobals "cell_name" = some (some (.ref a6)))
    (l6 : K.lookup a6 = some ⟨oc6, od6, .func (PySem.W.fnOf "cell_name" "cell_name" (defArgs (top 17)) (defBody (top 17)) (defScope (top 17)) .none kV6 dc6 pm6 an6 cd6 ct6), sl6⟩) (c6 : PySem.W.codeIn K cd6 "cell_name" = true) (k6 : PySem.W.keepIn K (.ref a6) = true)
    (m8 : PySem.W.nsIn K mainGlobals "parent_of" = some (some (.ref a8)))
    (l8 : K.lookup a8 = some ⟨oc8, od8, .func (PySem.W.fnOf "parent_of" "parent_of" (defArgs (top 19)) (defBody (top 19)) (defScope (top 19)) .none kV8 dc8 pm8 an8 cd8 ct8), sl8⟩) (c8 : PySem.W.codeIn K cd8 "parent_of" = true) (k8 : PySem.W.keepIn K (.ref a8) = true)
    (m9 : PySem.W.nsIn K mainGlobals "is_within" = some (some (.ref a9)))
    (l9 : K.lookup a9 = some ⟨oc9, od9, .func (PySem.W.fnOf "is_within" "is_within" (defArgs (top 20)) (defBody (top 20)) (defScope (top 20)) .none kV9 dc9 pm9 an9 cd9 ct9), sl9⟩) (c9 : PySem.W.codeIn K cd9 "is_within" = true) (k9 : PySem.W.keepIn K (.ref a9) = true)
    (m10 : PySem.W.nsIn K mainGlobals "_law_sack" = some (some (.ref a10)))
    (l10 : K.lookup a10 = some ⟨oc10, od10, .func (PySem.W.fnOf "_law_sack" "_law_sack" (defArgs (top 22)) (defBody (top 22)) (defScope (top 22)) .none kV10 dc10 pm10 an10 cd10 ct10), sl10⟩) (c10 : PySem.W.codeIn K cd10 "_law_sack" = true) (k10 : PySem.W.keepIn K (.ref a10) = true)
    (m11 : PySem.W.nsIn K mainGlobals "_law_pull" = some (some (.ref a11)))
    (l11 : K.lookup a11 = some ⟨oc11, od11, .func (PySem.W.fnOf "_law_pull" "_law_pull" (defArgs (top 23)) (defBody (top 23)) (defScope (top 23)) .none kV11 dc11 pm11 an11 cd11 ct11), sl11⟩) (c11 : PySem.W.codeIn K cd11 "_law_pull" = true) (k11 : PySem.W.keepIn K (.ref a11) = true)
    (m12 : PySem.W.nsIn K mainGlobals "_law_any" = some (some (.ref a12)))
    (l12 : K.lookup a12 = some ⟨oc12, od12, .func (PySem.W.fnOf "_law_any" "_law_any" (defArgs (top 24)) (defBody (top 24)) (defScope (top 24)) .none kV12 dc12 pm12 an12 cd12 ct12), sl12⟩) (c12 : PySem.W.codeIn K cd12 "_law_any" = true) (k12 : PySem.W.keepIn K (.ref a12) = true)
    (m13 : PySem.W.nsIn K mainGlobals "_law_word" = some (some (.ref a13)))
    (l13 : K.lookup a13 = some ⟨oc13, od13, .func (PySem.W.fnOf "_law_word" "_law_word" (defArgs (top 25)) (defBody (top 25)) (defScope (top 25)) .none kV13 dc13 pm13 an13 cd13 ct13), sl13⟩) (c13 : PySem.W.codeIn K cd13 "_law_word" = true) (k13 : PySem.W.keepIn K (.ref a13) = true)
    (m14 : PySem.W.nsIn K mainGlobals "_law_own_cell" = some (some (.ref a14)))
    (l14 : K.lookup a14 = some ⟨oc14, od14, .func (PySem.W.fnOf "_law_own_cell" "_law_own_cell" (defArgs (top 26)) (defBody (top 26)) (defScope (top 26)) .none kV14 dc14 pm14 an14 cd14 ct14), sl14⟩) (c14 : PySem.W.codeIn K cd14 "_law_own_cell" = true) (k14 : PySem.W.keepIn K (.ref a14) = true)
    (m15 : PySem.W.nsIn K mainGlobals "_law_own_name" = some (some (.ref a15)))
    (l15 : K.lookup a15 = some ⟨oc15, od15, .func (PySem.W.fnOf "_law_own_name" "_law_own_name" (defArgs (top 27)) (defBody (top 27)) (defScope (top 27)) .none kV15 dc15 pm15 an15 cd15 ct15), sl15⟩) (c15 : PySem.W.codeIn K cd15 "_law_own_name" = true) (k15 : PySem.W.keepIn K (.ref a15) = true)
    (m16 : PySem.W.nsIn K mainGlobals "_law_word_for" = some (some (.ref a16)))
    (l16 : K.lookup a16 = some ⟨oc16, od16, .func (PySem.W.fnOf "_law_word_for" "_law_word_for" (defArgs (top 28)) (defBody (top 28)) (defScope (top 28)) .none kV16 dc16 pm16 an16 cd16 ct16), sl16⟩) (c16 : PySem.W.codeIn K cd16 "_law_word_for" = true) (k16 : PySem.W.keepIn K (.ref a16) = true)
    (m17 : PySem.W.nsIn K mainGlobals "_law_names_right" = some (some (.ref a17)))
    (l17 : K.lookup a17 = some ⟨oc17, od17, .func (PySem.W.fnOf "_law_names_right" "_law_names_right" (defArgs (top 29)) (defBody (top 29)) (defScope (top 29)) .none kV17 dc17 pm17 an17 cd17 ct17), sl17⟩) (c17 : PySem.W.codeIn K cd17 "_law_names_right" = true) (k17 : PySem.W.keepIn K (.ref a17) = true)
    (m18 : PySem.W.nsIn K mainGlobals "_law_paths_right" = some (some (.ref a18)))
    (l18 : K.lookup a18 = some ⟨oc18, od18, .func (PySem.W.fnOf "_law_paths_right" "_law_paths_right" (defArgs (top 30)) (defBody (top 30)) (defScope (top 30)) .none kV18 dc18 pm18 an18 cd18 ct18), sl18⟩) (c18 : PySem.W.codeIn K cd18 "_law_paths_right" = true) (k18 : PySem.W.keepIn K (.ref a18) = true)
    (m19 : PySem.W.nsIn K mainGlobals "law" = some (some (.ref a19)))
    (l19 : K.lookup a19 = some ⟨oc19, od19, .func (PySem.W.fnOf "law" "law" (defArgs (top 31)) (defBody (top 31)) (defScope (top 31)) .none kV19 dc19 pm19 an19 cd19 ct19), sl19⟩) (c19 : PySem.W.codeIn K cd19 "law" = true) (k19 : PySem.W.keepIn K (.ref a19) = true)
    (kx50 : PySem.W.keepIn K (.ref C50) = true) (qx50 : PySem.W.excIn K C50 [.type "ValueError", .type "Exception", .type "BaseException", .type "object"] "ValueError.__new__" = true) (bx50 : PySem.W.subIn K (.ref C50) (.type "BaseException") = some true) (tx50 : PySem.W.typeIn K (.ref C50) = some (.type "type"))
    (kx51 : PySem.W.keepIn K (.ref C51) = true) (bx51 : PySem.W.subIn K (.ref C51) (.type "BaseException") = some true) (tx51 : PySem.W.typeIn K (.ref C51) = some (.type "type"))
    (kx52 : PySem.W.keepIn K (.ref C52) = true) (qx52 : PySem.W.excIn K C52 [.type "ValueError", .type "Exception", .type "BaseException", .type "object"] "ValueError.__new__" = true) (bx52 : PySem.W.subIn K (.ref C52) (.type "BaseException") = some true) (tx52 : PySem.W.typeIn K (.ref C52) = some (.type "type"))
    (z0 : PySem.W.nsIn K mainGlobals "len" = some none)
    (z1 : PySem.W.nsIn K mainGlobals "isinstance" = some none)
    (z2 : PySem.W.nsIn K mainGlobals "str" = some none)
    (z3 : PySem.W.nsIn K mainGlobals "all" = some none)
    (z4 : PySem.W.nsIn K mainGlobals "tuple" = some none)
    (z5 : PySem.W.nsIn K mainGlobals "bool" = some none)
    (z6 : PySem.W.nsIn K mainGlobals "int" = some none)
    (z7 : PySem.W.nsIn K mainGlobals "range" = some none)
    (z8 : PySem.W.nsIn K mainGlobals "abs" = some none)
    (z9 : PySem.W.nsIn K mainGlobals "max" = some none)
    (z10 : PySem.W.nsIn K mainGlobals "repr" = some none)
    (z11 : PySem.W.nsIn K mainGlobals "min" = some none)
    {co17 Pt17 : Addr} {oct17 : Value} {odt17 : Option Addr} {vst17 : Array Value} {slt17 : Array (Option Value)} (cq17 : cd17 = .ref co17) (lq17 : K.lookup co17 = some ⟨oct17, odt17, .fields vst17, slt17⟩) (vq17 : vst17[11]? = some (.ref Pt17)) (tn17 : K.lookup Pt17 = none)
    {co18 Pt18 : Addr} {oct18 : Value} {odt18 : Option Addr} {vst18 : Array Value} {slt18 : Array (Option Value)} (cq18 : cd18 = .ref co18) (lq18 : K.lookup co18 = some ⟨oct18, odt18, .fields vst18, slt18⟩) (vq18 : vst18[11]? = some (.ref Pt18)) (tn18 : K.lookup Pt18 = none)
    (td : ([Pt17, Pt18] : List Addr).Nodup)
    {nm51 qn51 : Str} {N51 fi51 : Addr} {bs51 bm51 : List Value} {sn51 : List Str} {sub51 : List Value} {ab51 : Bool} {col51 : Option Bool} {dd51 : Option Addr} {ma51 mb51 mc51 md51 me51 : Option Value} {odi51 ani51 : Option Addr} {sli51 : Array (Option Value)} {oci51 dci51 pmi51 cdi51 cti51 : Value} {pa51 pb51 pc51 pd51 pe51 pf51 : Pos}
    (xL51 : K.lookup C51 = some (excClassObj nm51 qn51 C51 N51 bs51 bm51 true sn51 sub51 ab51 col51 dd51 ma51 mb51 mc51 md51 me51 "IndexError.__new__"))
    (hct51 : ∀ Y : String, bm51.contains (.type Y) = ([.type "IndexError", .type "LookupError", .type "Exception", .type "BaseException", .type "object"] : List Value).contains (.type Y)) (hbm51 : PySem.RfX.MroOk bm51)
    (sx51 : PySem.W.findIn K (.ref C51) "__setattr__" = some (some (.builtin "object.__setattr__"))) (ga51 : PySem.W.findIn K (.ref C51) "__getattribute__" = some (some (.builtin "BaseException.__getattribute__"))) (gg51 : PySem.W.findIn K (.ref C51) "__getattr__" = some none) (nb51 : PySem.W.findIn K (.ref C51) "given" = some none)
    (ia51 : PySem.W.findIn K (.ref C51) "__init__" = some (some (.ref fi51))) (it51 : PySem.W.typeIn K (.ref fi51) = some (.type "function"))
    (il51 : K.lookup fi51 = some ⟨oci51, odi51, .func (PySem.W.fnOf "__init__" "InvalidNumber.__init__" (PySem.ExInvalidNumber.iA pa51 pb51) (PySem.ExInvalidNumber.iB pc51 pd51 pe51 pf51) PySem.ExInvalidNumber.iS .none .none dci51 pmi51 ani51 cdi51 cti51), sli51⟩) (ic51 : PySem.W.codeIn K cdi51 "InvalidNumber.__init__" = true)
    (hx51 : PySem.W.hasDictIn K C51 = true) 
    (ix51 : PySem.W.isClsIn K C51 = true)
    (ix52 : PySem.W.isClsIn K C52 = true)
    (ix50 : PySem.W.isClsIn K C50 = true)
    (xs_50_51 : PySem.W.subIn K (.ref C50) (.ref C51) = some false)
    (xs_51_51 : PySem.W.subIn K (.ref C51) (.ref C51) = some true)
    (xs_52_51 : PySem.W.subIn K (.ref C52) (.ref C51) = some false)
    (xs_50_52 : PySem.W.subIn K (.ref C50) (.ref C52) = some false)
    (xs_51_52 : PySem.W.subIn K (.ref C51) (.ref C52) = some false)
    (xs_52_52 : PySem.W.subIn K (.ref C52) (.ref C52) = some true)
    (xs_50_50 : PySem.W.subIn K (.ref C50) (.ref C50) = some true)
    (xs_51_50 : PySem.W.subIn K (.ref C51) (.ref C50) = some false)
    (xs_52_50 : PySem.W.subIn K (.ref C52) (.ref C50) = some false)
    : LawThere l w K 8 63 "script" mg fa h := by
  have e := hfa.symm.trans (PySem.W.mg_of X G m19)
  cases e
  have F0 := fun_mk (st := (top 11)) l0 c0 k0
  have F1 := fun_mk (st := (top 12)) l1 c1 k1
  have F2 := fun_mk (st := (top 13)) l2 c2 k2
  have F3 := fun_mk (st := (top 14)) l3 c3 k3
  have F4 := fun_mk (st := (top 15)) l4 c4 k4
  have F7 := fun_mk (st := (top 18)) l7 c7 k7
  have F5 := fun_mk (st := (top 16)) l5 c5 k5
  have F6 := fun_mk (st := (top 17)) l6 c6 k6
  have F8 := fun_mk (st := (top 19)) l8 c8 k8
  have F9 := fun_mk (st := (top 20)) l9 c9 k9
  have F10 := fun_mk (st := (top 22)) l10 c10 k10
  have F11 := fun_mk (st := (top 23)) l11 c11 k11
  have F12 := fun_mk (st := (top 24)) l12 c12 k12
  have F13 := fun_mk (st := (top 25)) l13 c13 k13
  have F14 := fun_mk (st := (top 26)) l14 c14 k14
  have F15 := fun_mk (st := (top 27)) l15 c15 k15
  have F16 := fun_mk (st := (top 28)) l16 c16 k16
  have F17 := fun_mk (st := (top 29)) l17 c17 k17
  have F18 := fun_mk (st := (top 30)) l18 c18 k18
  have F19 := fun_mk (st := (top 31)) l19 c19 k19
  let aa : Nat → Addr := fun i => match i with | 0 => a0 | 1 => a1 | 2 => a2 | 3 => a3 | 4 => a4 | 7 => a7 | 5 => a5 | 6 => a6 | 8 => a8 | 9 => a9 | 10 => a10 | 11 => a11 | 12 => a12 | 13 => a13 | 14 => a14 | 15 => a15 | 16 => a16 | 17 => a17 | 18 => a18 | 19 => fa | _ => 0
  let ff : Nat → FuncData := fun i => match i with | 0 => PySem.W.fnOf "is_name" "is_name" (defArgs (top 11)) (defBody (top 11)) (defScope (top 11)) .none kV0 dc0 pm0 an0 cd0 ct0 | 1 => PySem.W.fnOf "is_path" "is_path" (defArgs (top 12)) (defBody (top 12)) (defScope (top 12)) .none kV1 dc1 pm1 an1 cd1 ct1 | 2 => PySem.W.fnOf "is_cell" "is_cell" (defArgs (top 13)) (defBody (top 13)) (defScope (top 13)) .none kV2 dc2 pm2 an2 cd2 ct2 | 3 => PySem.W.fnOf "check_path" "check_path" (defArgs (top 14)) (defBody (top 14)) (defScope (top 14)) .none kV3 dc3 pm3 an3 cd3 ct3 | 4 => PySem.W.fnOf "name_cell" "name_cell" (defArgs (top 15)) (defBody (top 15)) (defScope (top 15)) .none kV4 dc4 pm4 an4 cd4 ct4 | 7 => PySem.W.fnOf "_letters_of" "_letters_of" (defArgs (top 18)) (defBody (top 18)) (defScope (top 18)) .none kV7 dc7 pm7 an7 cd7 ct7 | 5 => PySem.W.fnOf "name_of_cell" "name_of_cell" (defArgs (top 16)) (defBody (top 16)) (defScope (top 16)) .none kV5 dc5 pm5 an5 cd5 ct5 | 6 => PySem.W.fnOf "cell_name" "cell_name" (defArgs (top 17)) (defBody (top 17)) (defScope (top 17)) .none kV6 dc6 pm6 an6 cd6 ct6 | 8 => PySem.W.fnOf "parent_of" "parent_of" (defArgs (top 19)) (defBody (top 19)) (defScope (top 19)) .none kV8 dc8 pm8 an8 cd8 ct8 | 9 => PySem.W.fnOf "is_within" "is_within" (defArgs (top 20)) (defBody (top 20)) (defScope (top 20)) .none kV9 dc9 pm9 an9 cd9 ct9 | 10 => PySem.W.fnOf "_law_sack" "_law_sack" (defArgs (top 22)) (defBody (top 22)) (defScope (top 22)) .none kV10 dc10 pm10 an10 cd10 ct10 | 11 => PySem.W.fnOf "_law_pull" "_law_pull" (defArgs (top 23)) (defBody (top 23)) (defScope (top 23)) .none kV11 dc11 pm11 an11 cd11 ct11 | 12 => PySem.W.fnOf "_law_any" "_law_any" (defArgs (top 24)) (defBody (top 24)) (defScope (top 24)) .none kV12 dc12 pm12 an12 cd12 ct12 | 13 => PySem.W.fnOf "_law_word" "_law_word" (defArgs (top 25)) (defBody (top 25)) (defScope (top 25)) .none kV13 dc13 pm13 an13 cd13 ct13 | 14 => PySem.W.fnOf "_law_own_cell" "_law_own_cell" (defArgs (top 26)) (defBody (top 26)) (defScope (top 26)) .none kV14 dc14 pm14 an14 cd14 ct14 | 15 => PySem.W.fnOf "_law_own_name" "_law_own_name" (defArgs (top 27)) (defBody (top 27)) (defScope (top 27)) .none kV15 dc15 pm15 an15 cd15 ct15 | 16 => PySem.W.fnOf "_law_word_for" "_law_word_for" (defArgs (top 28)) (defBody (top 28)) (defScope (top 28)) .none kV16 dc16 pm16 an16 cd16 ct16 | 17 => PySem.W.fnOf "_law_names_right" "_law_names_right" (defArgs (top 29)) (defBody (top 29)) (defScope (top 29)) .none kV17 dc17 pm17 an17 cd17 ct17 | 18 => PySem.W.fnOf "_law_paths_right" "_law_paths_right" (defArgs (top 30)) (defBody (top 30)) (defScope (top 30)) .none kV18 dc18 pm18 an18 cd18 ct18 | 19 => PySem.W.fnOf "law" "law" (defArgs (top 31)) (defBody (top 31)) (defScope (top 31)) .none kV19 dc19 pm19 an19 cd19 ct19 | _ => PySem.W.fnOf "law" "law" (defArgs (top 31)) (defBody (top 31)) (defScope (top 31)) .none kV19 dc19 pm19 an19 cd19 ct19
  let Ts : List (Addr × Str) := [(Pt17, (("_law_names_right" : Str) ++ ".<locals>." ++ "<lambda>")), (Pt18, (("_law_paths_right" : Str) ++ ".<locals>." ++ "<lambda>"))]
  let g : Gx := ⟨K, fun i => match i with | 50 => C50 | 51 => C51 | 52 => C52 | _ => 0, fun i => match i with | 51 => "given" | _ => "", Ts, fun _ _ => True, fun _ _ _ _ _ h => h⟩
  refine ⟨PySem.W.fnOf "law" "law" (defArgs (top 31)) (defBody (top 31)) (defScope (top 31)) .none kV19 dc19 pm19 an19 cd19 ct19, [(co17, Pt17), (co18, Pt18)], spLawT K 63 Ts, (tabs_cons (tab_there Tp X (has_of hq (List.Mem.head _)) (tab_in m17 l17 cq17 lq17 vq17)) tn17 (tabs_cons (tab_there Tp X (has_of hq (List.Mem.tail _ (List.Mem.head _))) (tab_in m18 l18 cq18 lq18 vq18)) tn18 tabs_nil)), fun s v => .of_eq rfl, fun H a ns hl hb tb sq => ⟨a, ns, rfl, hl, hb, sq, (List.forall_mem_cons.mpr ⟨tb (co17, Pt17) (List.Mem.head _), (List.forall_mem_cons.mpr ⟨tb (co18, Pt18) (List.Mem.tail _ (List.Mem.head _)), (fun _ z => nomatch z)⟩)⟩), fun _ => rfl⟩, fun base KB NB TB => ?_⟩
  have T : Txt g mg base aa ff := {
    c_MAX_NAME := ⟨_, PySem.W.mg_of X G q0, ⟨_, rfl⟩⟩
    c_LETTERS := ⟨_, PySem.W.mg_of X G q1, ⟨_, rfl⟩⟩
    c_MAX_PATH := ⟨_, PySem.W.mg_of X G q2, ⟨_, rfl⟩⟩
    c_MAX_CELL := ⟨_, PySem.W.mg_of X G q3, ⟨_, rfl⟩⟩
    c_BASE := ⟨_, PySem.W.mg_of X G q4, ⟨_, rfl⟩⟩
    b_len := PySem.W.mg_none_of X G z0
    b_isinstance := PySem.W.mg_none_of X G z1
    b_str := PySem.W.mg_none_of X G z2
    b_all := PySem.W.mg_none_of X G z3
    b_tuple := PySem.W.mg_none_of X G z4
    b_bool := PySem.W.mg_none_of X G z5
    b_int := PySem.W.mg_none_of X G z6
    b_range := PySem.W.mg_none_of X G z7
    b_abs := PySem.W.mg_none_of X G z8
    b_max := PySem.W.mg_none_of X G z9
    b_repr := PySem.W.mg_none_of X G z10
    b_min := PySem.W.mg_none_of X G z11
    f_is_name := F0
    n_is_name := F0.binds (ps := ["value"]) fun _ _ _ _ _ _ us hl => match us, hl with | [_], _ => rfl
    g_is_name := PySem.W.mg_of X G m0
    f_is_path := F1
    n_is_path := F1.binds (ps := ["value"]) fun _ _ _ _ _ _ us hl => match us, hl with | [_], _ => rfl
    g_is_path := PySem.W.mg_of X G m1
    f_is_cell := F2
    n_is_cell := F2.binds (ps := ["value"]) fun _ _ _ _ _ _ us hl => match us, hl with | [_], _ => rfl
    g_is_cell := PySem.W.mg_of X G m2
    f_check_path := F3
    n_check_path := F3.binds (ps := ["path"]) fun _ _ _ _ _ _ us hl => match us, hl with | [_], _ => rfl
    g_check_path := PySem.W.mg_of X G m3
    f_name_cell := F4
    n_name_cell := F4.binds (ps := ["name"]) fun _ _ _ _ _ _ us hl => match us, hl with | [_], _ => rfl
    g_name_cell := PySem.W.mg_of X G m4
    f__letters_of := F7
    n__letters_of := F7.binds (ps := ["cell"]) fun _ _ _ _ _ _ us hl => match us, hl with | [_], _ => rfl
    g__letters_of := PySem.W.mg_of X G m7
    f_name_of_cell := F5
    n_name_of_cell := F5.binds (ps := ["cell"]) fun _ _ _ _ _ _ us hl => match us, hl with | [_], _ => rfl
    g_name_of_cell := PySem.W.mg_of X G m5
    f_cell_name := F6
    n_cell_name := F6.binds (ps := ["cell"]) fun _ _ _ _ _ _ us hl => match us, hl with | [_], _ => rfl
    g_cell_name := PySem.W.mg_of X G m6
    f_parent_of := F8
    n_parent_of := F8.binds (ps := ["path"]) fun _ _ _ _ _ _ us hl => match us, hl with | [_], _ => rfl
    g_parent_of := PySem.W.mg_of X G m8
    f_is_within := F9
    n_is_within := F9.binds (ps := ["path", "value"]) fun _ _ _ _ _ _ us hl => match us, hl with | [_, _], _ => rfl
    g_is_within := PySem.W.mg_of X G m9
    f__law_sack := F10
    n__law_sack := F10.binds (ps := ["script", "spot"]) fun _ _ _ _ _ _ us hl => match us, hl with | [_, _], _ => rfl
    g__law_sack := PySem.W.mg_of X G m10
    f__law_pull := F11
    n__law_pull := F11.binds (ps := ["sack", "total"]) fun _ _ _ _ _ _ us hl => match us, hl with | [_, _], _ => rfl
    g__law_pull := PySem.W.mg_of X G m11
    f__law_any := F12
    n__law_any := F12.binds (ps := ["sack", "items"]) fun _ _ _ _ _ _ us hl => match us, hl with | [_, _], _ => rfl
    g__law_any := PySem.W.mg_of X G m12
    f__law_word := F13
    n__law_word := F13.binds (ps := ["sack", "most"]) fun _ _ _ _ _ _ us hl => match us, hl with | [_, _], _ => rfl
    g__law_word := PySem.W.mg_of X G m13
    f__law_own_cell := F14
    n__law_own_cell := F14.binds (ps := ["name"]) fun _ _ _ _ _ _ us hl => match us, hl with | [_], _ => rfl
    g__law_own_cell := PySem.W.mg_of X G m14
    f__law_own_name := F15
    n__law_own_name := F15.binds (ps := ["cell"]) fun _ _ _ _ _ _ us hl => match us, hl with | [_], _ => rfl
    g__law_own_name := PySem.W.mg_of X G m15
    f__law_word_for := F16
    n__law_word_for := F16.binds (ps := ["call"]) fun _ _ _ _ _ _ us hl => match us, hl with | [_], _ => rfl
    g__law_word_for := PySem.W.mg_of X G m16
    f__law_names_right := F17
    n__law_names_right := F17.binds (ps := ["sack"]) fun _ _ _ _ _ _ us hl => match us, hl with | [_], _ => rfl
    g__law_names_right := PySem.W.mg_of X G m17
    f__law_paths_right := F18
    n__law_paths_right := F18.binds (ps := ["sack"]) fun _ _ _ _ _ _ us hl => match us, hl with | [_], _ => rfl
    g__law_paths_right := PySem.W.mg_of X G m18
    f_law := F19
    n_law := F19.binds (ps := ["script"]) fun _ _ _ _ _ _ us hl => match us, hl with | [_], _ => rfl
    g_law := PySem.W.mg_of X G m19
    l__law_names_right := ⟨co17, Pt17, cq17, TB (co17, Pt17) (List.Mem.head _), (List.Mem.head _), uniq_of (l := Ts) td (List.Mem.head _)⟩
    l__law_paths_right := ⟨co18, Pt18, cq18, TB (co18, Pt18) (List.Mem.tail _ (List.Mem.head _)), (List.Mem.tail _ (List.Mem.head _)), uniq_of (l := Ts) td (List.Mem.tail _ (List.Mem.head _))⟩
    gx_InvalidName := PySem.W.mg_of X G aX50
    kx_InvalidName := kx50
    qx_InvalidName := qx50
    bx_InvalidName := bx50
    tx_InvalidName := tx50
    gx_InvalidNumber := PySem.W.mg_of X G aX51
    kx_InvalidNumber := kx51
    bx_InvalidNumber := bx51
    tx_InvalidNumber := tx51
    gx_InvalidOperation := PySem.W.mg_of X G aX52
    kx_InvalidOperation := kx52
    qx_InvalidOperation := qx52
    bx_InvalidOperation := bx52
    tx_InvalidOperation := tx52
    lo_InvalidNumber := ⟨fi51, PySem.W.mg_of X G aX51, ⟨nm51, qn51, N51, bs51, bm51, sn51, sub51, ab51, col51, dd51, ma51, mb51, mc51, md51, me51, xL51, hct51, hbm51⟩, sx51, ga51, gg51, nb51, ia51, it51, kx51, bx51, tx51, hx51, exm_mk bx51 ix51 tx51 xs_51_51, ⟨_, _, _, _, _, _, _, _, _, _, _, _, _, _, il51, ic51⟩⟩
    fl_InvalidNumber := rfl
    xf_InvalidNumber := ⟨ga51, gg51, bx51, hx51⟩
    xn_InvalidNumber := nb51
    xm := by
      intro c hc k hk
      simp only [clsV, errsV, List.mem_cons, List.not_mem_nil, or_false] at hc hk
      rcases hc with rfl | rfl | rfl <;> rcases hk with rfl | rfl | rfl
      · exact exm_mk bx51 ix51 tx51 xs_50_51
      · exact exm_mk bx51 ix51 tx51 xs_51_51
      · exact exm_mk bx51 ix51 tx51 xs_52_51
      · exact exm_mk bx52 ix52 tx52 xs_50_52
      · exact exm_mk bx52 ix52 tx52 xs_51_52
      · exact exm_mk bx52 ix52 tx52 xs_52_52
      · exact exm_mk bx50 ix50 tx50 xs_50_50
      · exact exm_mk bx50 ix50 tx50 xs_51_50
      · exact exm_mk bx50 ix50 tx50 xs_52_50
  }
  exact (ok_law T).weaken fun vs H Q E h => promiseT right g (fun _ _ => trivial) vs H Q E h
theorem walk {l : PySem.W.OpenLaw} {q : Program} {loose : List Str} {XP : (Str → Option Value) → Heap → Prop} {YP : World → Heap → Prop} {d : DefRec} {K : Params → PySem.W.Frag} (hn : l.most = some 63) (plain : d.params.defaults = []) (known : ∀ (w : World) (h : Heap), YP w h → (K w.params).In h)
    (F : ∀ (w : World) (mean : ExcName → Option Value) (mg mb : Str → Option Value) (fa : Addr) (h : Heap), Top q (PySem.W.looseW q loose) mean mg mb h → (K w.params).In h → h.Ns mainGlobals mg → mg d.name = some (.ref fa) → LawThere l w (K w.params) 8 63 "script" mg fa h) :
    PySem.W.WalkO q loose XP YP l.row.toRowW d [] (fun f vs => PySem.call f vs) :=
  walk_endT (n := 63) (k := 8) (x := "script") hn (by decide) plain ⟨rfl, by decide, by decide⟩ known F

end V
open PySem PySem.W PyProof.Rows
set_option maxRecDepth 100000 in
set_option maxHeartbeats 0 in
theorem PySem.Challenge.cw_everycut_k01_whole_names_cells_and_paths_holds : PySem.Challenge.rw_everycut_k01_whole_names_cells_and_paths.Holds := by
  w_on; o_law; k_head; (case hw => w_witness2)
  k_fill
  refine V.walk (l := PySem.Challenge.rw_everycut_k01_whole_names_cells_and_paths) rfl rfl (fun w h Y => by first | exact PySem.W.kIn_of Y | exact PySem.W.km_in_of Y) ?F
  case F =>
    intro w mean mg mb fa h Tp KX G hmg
    refine' V.all_mk V.right KX Tp G hmg ?hq ?aX50 ?aX51 ?aX52 ?q0 ?q1 ?q2 ?q3 ?q4 ?m0 ?l0 ?c0 ?k0 ?m1 ?l1 ?c1 ?k1 ?m2 ?l2 ?c2 ?k2 ?m3 ?l3 ?c3 ?k3 ?m4 ?l4 ?c4 ?k4 ?m7 ?l7 ?c7 ?k7 ?m5 ?l5 ?c5 ?k5 ?m6 ?l6 ?c6 ?k6 ?m8 ?l8 ?c8 ?k8 ?m9 ?l9 ?c9 ?k9 ?m10 ?l10 ?c10 ?k10 ?m11 ?l11 ?c11 ?k11 ?m12 ?l12 ?c12 ?k12 ?m13 ?l13 ?c13 ?k13 ?m14 ?l14 ?c14 ?k14 ?m15 ?l15 ?c15 ?k15 ?m16 ?l16 ?c16 ?k16 ?m17 ?l17 ?c17 ?k17 ?m18 ?l18 ?c18 ?k18 ?m19 ?l19 ?c19 ?k19 ?kx50 ?qx50 ?bx50 ?tx50 ?kx51 ?bx51 ?tx51 ?kx52 ?qx52 ?bx52 ?tx52 ?z0 ?z1 ?z2 ?z3 ?z4 ?z5 ?z6 ?z7 ?z8 ?z9 ?z10 ?z11 ?cq17 ?lq17 ?vq17 ?tn17 ?cq18 ?lq18 ?vq18 ?tn18 ?td ?xL51 ?hct51 ?hbm51 ?sx51 ?ga51 ?gg51 ?nb51 ?ia51 ?it51 ?il51 ?ic51 ?hx51 ?ix51 ?ix52 ?ix50 ?xs_50_51 ?xs_51_51 ?xs_52_51 ?xs_50_52 ?xs_51_52 ?xs_52_52 ?xs_50_50 ?xs_51_50 ?xs_52_50
    (case hq => kernel_rfl)
    (case aX50 => k_is)
    (case aX51 => k_is)
    (case aX52 => k_is)
    (case q0 => k_is)
    (case q1 => k_is)
    (case q2 => k_is)
    (case q3 => k_is)
    (case q4 => k_is)
    (case m0 => k_is)
    (case l0 => k_is)
    (case c0 => k_is)
    (case k0 => k_is)
    (case m1 => k_is)
    (case l1 => k_is)
    (case c1 => k_is)
    (case k1 => k_is)
    (case m2 => k_is)
    (case l2 => k_is)
    (case c2 => k_is)
    (case k2 => k_is)
    (case m3 => k_is)
    (case l3 => k_is)
    (case c3 => k_is)
    (case k3 => k_is)
    (case m4 => k_is)
    (case l4 => k_is)
    (case c4 => k_is)
    (case k4 => k_is)
    (case m7 => k_is)
    (case l7 => k_is)
    (case c7 => k_is)
    (case k7 => k_is)
    (case m5 => k_is)
    (case l5 => k_is)
    (case c5 => k_is)
    (case k5 => k_is)
    (case m6 => k_is)
    (case l6 => k_is)
    (case c6 => k_is)
    (case k6 => k_is)
    (case m8 => k_is)
    (case l8 => k_is)
    (case c8 => k_is)
    (case k8 => k_is)
    (case m9 => k_is)
    (case l9 => k_is)
    (case c9 => k_is)
    (case k9 => k_is)
    (case m10 => k_is)
    (case l10 => k_is)
    (case c10 => k_is)
    (case k10 => k_is)
    (case m11 => k_is)
    (case l11 => k_is)
    (case c11 => k_is)
    (case k11 => k_is)
    (case m12 => k_is)
    (case l12 => k_is)
    (case c12 => k_is)
    (case k12 => k_is)
    (case m13 => k_is)
    (case l13 => k_is)
    (case c13 => k_is)
    (case k13 => k_is)
    (case m14 => k_is)
    (case l14 => k_is)
    (case c14 => k_is)
    (case k14 => k_is)
    (case m15 => k_is)
    (case l15 => k_is)
    (case c15 => k_is)
    (case k15 => k_is)
    (case m16 => k_is)
    (case l16 => k_is)
    (case c16 => k_is)
    (case k16 => k_is)
    (case m17 => k_is)
    (case l17 => k_is)
    (case c17 => k_is)
    (case k17 => k_is)
    (case m18 => k_is)
    (case l18 => k_is)
    (case c18 => k_is)
    (case k18 => k_is)
    (case m19 => k_is)
    (case l19 => k_is)
    (case c19 => k_is)
    (case k19 => k_is)
    (case kx50 => k_is)
    (case qx50 => k_exc)
    (case bx50 => k_is)
    (case tx50 => k_is)
    (case kx51 => k_is)
    (case bx51 => k_is)
    (case tx51 => k_is)
    (case kx52 => k_is)
    (case qx52 => k_exc)
    (case bx52 => k_is)
    (case tx52 => k_is)
    (case z0 => k_is)
    (case z1 => k_is)
    (case z2 => k_is)
    (case z3 => k_is)
    (case z4 => k_is)
    (case z5 => k_is)
    (case z6 => k_is)
    (case z7 => k_is)
    (case z8 => k_is)
    (case z9 => k_is)
    (case z10 => k_is)
    (case z11 => k_is)
    (case cq17 => exact rfl)
    (case lq17 => k_is)
    (case vq17 => first | exact rfl | kernel_rfl)
    (case tn17 => first | k_is | kernel_rfl)
    (case cq18 => exact rfl)
    (case lq18 => k_is)
    (case vq18 => first | exact rfl | kernel_rfl)
    (case tn18 => first | k_is | kernel_rfl)
    (case xL51 => k_is)
    (case sx51 => k_is)
    (case ga51 => k_is)
    (case gg51 => k_is)
    (case nb51 => k_is)
    (case ia51 => k_is)
    (case it51 => k_is)
    (case il51 => k_is)
    (case ic51 => k_is)
    (case hx51 => k_is)
    (case ix51 => k_is)
    (case ix52 => k_is)
    (case ix50 => k_is)
    (case xs_50_51 => k_is)
    (case xs_51_51 => k_is)
    (case xs_52_51 => k_is)
    (case xs_50_52 => k_is)
    (case xs_51_52 => k_is)
    (case xs_52_52 => k_is)
    (case xs_50_50 => k_is)
    (case xs_51_50 => k_is)
    (case xs_52_50 => k_is)
    (case td => decide)
    (case hct51 => exact fun _ => rfl)
    (case hbm51 => exact PySem.RfX.mro_index)

